/-
  The document's own reading of tables: where it is bad ahead of what is pointed to. Conditions: those that each theorem names.
-/
import Derived.Test.YtachghaegokpdaaDoorPkFC11
import Derived.Test.YtachghaegokpdaaDoorPkFC17
import Derived.Test.YtachghaegokpdaaDoorPkFC18
namespace Go.Proofs.YtachghaegokpdaaDoor
open Go.ChangeShapes Go.WideShapes Go.ChangeAt Go.RowKit Go.Shelf
set_option maxRecDepth 100000 in
set_option maxHeartbeats 8000000 in
theorem rdval_in (w:World){base:Nat}{ss:List (CRec × Value)}{es:List (SCho × Value)}{rk:Nat}{sv ev:Value}{root:Int}{bp:Option Addr}{bc:Nat}{zs:List Int}{left:Int}(h:RdSt w rk sv ev root bp bc zs (lenZ zs-left) false)(hv:RowV sv∧RowV ev)(hR:∀ W,Exw rk rk w.heap.size w W→CRows base W ss es sv ev)(hl:0≤left∧left≤lenZ zs)(k r:Nat)(at' dp:Int)(hk:0<kSize k)(hk255:k≤10)(hin:inZ (lenZ zs) at' (kSize k)=true) :
  Calls Tryd.prog 95 #[.pointer (some ⟨rk,0,none⟩),.agg #[.int .u8 k,.int .i64 r,.int .i64 0],.int .i64 at',.int .i64 dp] w (RdPost (numZ (es.map Prod.fst) zs k r at' left) w rk sv ev root bp bc zs):=by
 obtain ⟨hb,hq1,hq2⟩:=two_start w #[.int .u8 k,.int .i64 r,.int .i64 0] #[.int .u64 0,.slice none 0 0,.slice none 0 0,.bool false] 58 49
 have HB:=Lib.hid hb
 have HQ1:=Lib.hid hq1
 have HQ2:=Lib.hid hq2
 have H0:=Lib.hid (h.below hb)
 have HV:=Lib.hid hv
 have HH0:=Lib.hid h
 have HRR:=Lib.hid hR
 have HRK:Hid (rk<w.heap.size):=Lib.hid (blk_lt h.blk)
 have HRES:=Lib.hid (numZ_eq (es:=es.map Prod.fst) (ref:=r) (left:=left) hk hin)
 have HNT:Hid (∀ W,Calls Tryd.prog 48 #[.agg #[.int .u8 k,.int .i64 r,.int .i64 0]] W fun e w'=>e=.returned (.bool true)∧Below W.heap.size W w'):=Lib.hid (fun W=>by
  have h5:=rnumI_any k (by omega) r 0 W
  rw [show numTB k 0=true from by unfold numTB;rw [decide_eq_true hk];rfl] at h5
  exact h5)
 have HWI:=Lib.hid (fun W=>(by have h5:=rwithin_opt (zs.length:Int) at' (kSize k) W (by omega) (by have:=h.len;omega);rw [show inZ (zs.length:Int) at' (kSize k)=true from hin] at h5;exact h5:Calls Tryd.prog 109 #[.int .i64 (zs.length:Int),.int .i64 at',.int .i64 (kSize k)] W fun e w'=>e=.returned (.bool true)∧W=w'))
 have HSZ:=Lib.hid (fun W=>rsize_any k W)
 have HSG:=Lib.hid (fun W=>rsign_any k W)
 have HL0:=Lib.hid hl
 have HLL:Hid (0≤lenZ zs-left∧lenZ zs-left≤1000000000000):=Lib.hid (by have:=h.len;unfold lenZ at *;omega)
 have hw8:=IntWalk.i64_in (k:Int) ⟨by omega,by omega⟩
 have hlen:=h.len
 have hcap:=h.cap
 have h1:=inZ_iff.1 hin
 change 0≤at'∧0≤kSize k∧kSize k≤(zs.length:Int)-at' at h1
 have hne:zs≠[]:=fun e=>by subst e;simp at h1;omega
 obtain ⟨b,off,rfl,_,hc⟩:=h.bytes.2 hne
 obtain ⟨a,rfl⟩:∃ a:Nat,at'=a:=⟨at'.toNat,by omega⟩
 have hzb:=h.bytes.1
 obtain ⟨s,hs,hss⟩:=ksize_is hk
 have hbd:=numAt_bd (at':=(a:Int)) hzb hk
 have hld:ldO zs (a:Int) s=leAt zs a s:=by unfold ldO;rw [←hs,if_pos hin,Int.toNat_natCast]
 have hna:numAt zs k (a:Int)=if kSign k=true then sgnOf (leAt zs a s) s else leAt zs a s:=by unfold numAt;rw [hs,Int.toNat_natCast,hld]
 have hzbd:0≤leAt zs a s∧leAt zs a s≤18446744073709551615:=by
  have h2:=leAt_1 zs a hzb
  have h3:=leAt_2 zs a hzb
  have h4:=leAt_4 zs a hzb
  have h5:=leAt_8 zs a hzb
  rcases hss with rfl|rfl|rfl|rfl<;>omega
 obtain ⟨N,hN⟩:∃ N:Nat,numAt zs k (a:Int)=N:=⟨(numAt zs k a).toNat,by omega⟩
 rw [hN] at HRES hna hbd
 rw [Int.toNat_natCast] at HRES
 have HSI:=Lib.hid (fun W=>rsigned_any (leAt zs a s) s W hzbd.1 hzbd.2)
 have HNU:Hid (∀ W,(∀ i,i<s→W.cell? ⟨b,off+a+i,none⟩=some (.int .u8 (zs.getD (a+i) 0)))→∀ n cap,n=s→Calls Tryd.prog 110 #[.slice (some ⟨b,off+a,none⟩) n cap] W fun e w'=>e=.returned (.int .u64 (leAt zs a s))∧W=w'):=Lib.hid (fun W hW n cap hn=>by
  subst hn
  exact rnum_any b (off+a) n cap W (fun i=>zs.getD (a+i) 0) (by omega) hW (fun i _=>hzb _))
 have HCL:Hid (∀ W,Below w.heap.size w W→∀ i,i<s→W.cell? ⟨b,off+a+i,none⟩=some (.int .u8 (zs.getD (a+i) 0))):=Lib.hid (fun W hW i hi=>by
  have h5:=hc (a+i) (by omega)
  rw [←Nat.add_assoc] at h5
  exact cell_stays hW h5)
 have HFT:Hid (∀ W,Below w.heap.size w W→Calls Tryd.prog 70 #[.agg #[sv,ev,.int .i64 root],.agg #[.int .u8 k,.int .i64 r,.int .i64 0],.int .u64 N] W fun e w'=>e=.returned (.bool (fitsT (es.map Prod.fst) k r 0 N))∧Below W.heap.size W w'):=Lib.hid (fun W hW=>rfits_any W root (hR W (Exw.of_below hW)) k r 0 N (by omega) (by omega))
 have hw1:=IntWalk.i64_in ((a:Int)+s) ⟨by omega,by omega⟩
 have hs1:1≤s:=by omega
 rw [hs] at HSZ HWI
 rw [hs] at h1
 have HNB:Hid (N≤18446744073709551615):=Lib.hid (by omega)
 have E1:((a:Int)+s).toNat-(a:Int).toNat=s:=by omega
 have E2:((a:Int)+s).toNat=a+s:=by omega
 have E3:a+s-a=s:=by omega
 obtain ⟨P,hP⟩:∃ P,RdPost (numZ (es.map Prod.fst) zs k r a left) w rk sv ev root (some ⟨b,off,none⟩) bc zs=P:=⟨_,rfl⟩
 rw [hP]
 have HP:=Lib.hid hP.symm
 clear hb hq1 hq2 h hv hP hin hR hc hzb hld hN hl hss hs hk hbd hzbd
 generalize fitsT (es.map Prod.fst) k r 0 N=ft at *
 generalize leAt zs a s=z at *
 obtain ⟨rc,hrc⟩:∃ rc,lenZ zs-left=rc:=⟨_,rfl⟩
 rw [hrc] at H0 HH0 HLL
 have HRC:=Lib.hid hrc
 clear hrc
 go_enter Tryd.func95,Tryd.ntmps95
 go_upto_region 1 with (fail)
 generalize (w.alloc (.cells #[.int .u8 k,.int .i64 r,.int .i64 0] 58)).alloc (.cells #[.int .u64 0,.slice none 0 0,.slice none 0 0,.bool false] 49)=W0 at *
 obtain ⟨_,c0,c1,c2,c3,c4,c5⟩:=blk6 H0.out.blk
 obtain ⟨_,s0,s1,s2,_⟩:=blk3 HQ1.out
 go_wp2_with fail
 refine (HNT.out _).mono ?_
 rintro e W1 ⟨rfl,hb1⟩
 have HB1:=Lib.hid (HB.out.trans (hb1.mono HB.out.size))
 have H1:=Lib.hid (H0.out.below hb1)
 have P1:=Lib.hid (blk_below HQ1.out hb1 (blk_lt HQ1.out))
 have P2:=Lib.hid (blk_below HQ2.out hb1 (blk_lt HQ2.out))
 clear hb1 c0 c1 c2 c3 c4 c5 s0 s1 s2
 obtain ⟨_,c0,c1,c2,c3,c4,c5⟩:=blk6 H1.out.blk
 obtain ⟨_,s0,s1,s2,_⟩:=blk3 P1.out
 go_wp2_with fail
 refine (HSZ.out _).mono ?_
 rintro e _ ⟨rfl,rfl⟩
 go_wp2_with fail
 refine (HWI.out _).mono ?_
 rintro e _ ⟨rfl,rfl⟩
 go_wp2_with fail
 refine (HNU.out _ (HCL.out _ HB1.out) _ _ ?_).mono ?_
 · omega
 rintro e _ ⟨rfl,rfl⟩
 go_wp2_with fail
 refine (HSG.out _).mono ?_
 rintro e _ ⟨rfl,rfl⟩
 generalize kSign k=sg at *
 cases sg with
 | true =>
  rw [if_pos rfl] at hna
  rw [←hna] at HSI
  clear hna
  go_wp2_with fail
  refine (HSI.out _).mono ?_
  rintro e _ ⟨rfl,rfl⟩
  go_upto_region 11 with (fail)
  have s3:=c0
  have s4:=c1
  have s5:=c2
  clear c0 c1 c2 c3 c4 c5
  refine wp_region_noPanic ?_
  refine wp_region_held_drew (S:=(fun w'=>w'.cell? ⟨w.heap.size,0,none⟩=some (.int .u8 k)∧w'.cell? ⟨w.heap.size,1,none⟩=some (.int .i64 r)∧w'.cell? ⟨w.heap.size,2,none⟩=some (.int .i64 0)∧w'.cell? ⟨rk,0,none⟩=some (sv)∧w'.cell? ⟨rk,1,none⟩=some (ev)∧w'.cell? ⟨rk,2,none⟩=some (.int .i64 root))) (by kernel_rfl) ⟨s0,s1,s2,s3,s4,s5⟩ ?_
  intro hS
  refine wpAnyH_take (i:=0) (v:=.pointer (some ⟨rk,0,none⟩)) rfl (by kernel_rfl) (by kernel_rfl) (by kernel_rfl) (fun _ _ _ h=>h) (Or.inl ⟨by rfl,?_⟩) hS ?_
  · intro w' hSw
    obtain ⟨s0,s1,s2,s3,s4,s5⟩:=hSw
    go_simp
  simp only [Act.put,List.getElem_toArray,List.getElem_cons_zero,List.setIfInBounds_toArray,List.set_cons_zero,List.set_cons_succ]
  refine wpAnyH_take (i:=1) (v:=.pointer (some ⟨rk,0,none⟩)) rfl (by kernel_rfl) (by kernel_rfl) (by kernel_rfl) (fun _ _ _ h=>h) (Or.inl ⟨by rfl,?_⟩) hS ?_
  · intro w' hSw
    obtain ⟨s0,s1,s2,s3,s4,s5⟩:=hSw
    go_simp
  simp only [Act.put,List.getElem_toArray,List.getElem_cons_succ,List.getElem_cons_zero,List.setIfInBounds_toArray,List.set_cons_zero,List.set_cons_succ]
  refine wpAnyH_take (i:=2) (v:=.pointer (some ⟨rk,0,none⟩)) rfl (by kernel_rfl) (by kernel_rfl) (by kernel_rfl) (fun _ _ _ h=>h) (Or.inl ⟨by rfl,?_⟩) hS ?_
  · intro w' hSw
    obtain ⟨s0,s1,s2,s3,s4,s5⟩:=hSw
    go_simp
  simp only [Act.put,List.getElem_toArray,List.getElem_cons_succ,List.getElem_cons_zero,List.setIfInBounds_toArray,List.set_cons_zero,List.set_cons_succ]
  refine wpAnyH_take (i:=3) (v:=.agg #[sv,ev,.int .i64 root]) rfl (by kernel_rfl) (by kernel_rfl) (by kernel_rfl) (fun _ _ _ h=>h) (Or.inl ⟨by rfl,?_⟩) hS ?_
  · intro w' hSw
    obtain ⟨s0,s1,s2,s3,s4,s5⟩:=hSw
    go_simp
  simp only [Act.put,List.getElem_toArray,List.getElem_cons_succ,List.getElem_cons_zero,List.setIfInBounds_toArray,List.set_cons_zero,List.set_cons_succ]
  refine wpAnyH_take (i:=4) (v:=.agg #[.int .u8 k,.int .i64 r,.int .i64 0]) rfl (by kernel_rfl) (by kernel_rfl) (by kernel_rfl) (fun _ _ _ h=>h) (Or.inl ⟨by rfl,?_⟩) hS ?_
  · intro w' hSw
    obtain ⟨s0,s1,s2,s3,s4,s5⟩:=hSw
    go_simp
  simp only [Act.put,List.getElem_toArray,List.getElem_cons_succ,List.getElem_cons_zero,List.setIfInBounds_toArray,List.set_cons_zero,List.set_cons_succ]
  refine wpAnyH_take (i:=5) (v:=.int .u64 N) rfl (by kernel_rfl) (by kernel_rfl) (by kernel_rfl) (fun _ _ _ h=>h) (Or.inl ⟨by rfl,?_⟩) hS ?_
  · intro w' hSw
    obtain ⟨s0,s1,s2,s3,s4,s5⟩:=hSw
    go_simp
  simp only [Act.put,List.getElem_toArray,List.getElem_cons_succ,List.getElem_cons_zero,List.setIfInBounds_toArray,List.set_cons_zero,List.set_cons_succ]
  refine wpAnyH_ready (rs:=[6]) (by kernel_rfl) (by decide) (AllReadyH.cons rfl (fun K hK=>?_) AllReadyH.nil)
  rw [if_pos (by kernel_rfl)]
  go_simp
  refine (HFT.out W1.drew (HB1.out.trans (Below.mono ((Below.refl _ W1).drew) HB1.out.size))).mono ?_
  rintro e Wh1 ⟨rfl,hb1⟩
  have hx1:Below W1.heap.size W1 Wh1:=(Below.refl _ W1).drew.trans hb1
  have ns0:=cell_stays hx1 s0
  have ns1:=cell_stays hx1 s1
  have ns2:=cell_stays hx1 s2
  have ns3:=cell_stays hx1 s3
  have ns4:=cell_stays hx1 s4
  have ns5:=cell_stays hx1 s5
  refine hK.out _ _ ⟨ns0,ns1,ns2,ns3,ns4,ns5⟩ (fun hS=>?_)
  clear ns0 ns1 ns2 ns3 ns4 ns5
  refine wpAnyH_take (i:=7) (v:=.bool (!ft)) rfl (by kernel_rfl) (by kernel_rfl) (by kernel_rfl) (fun _ _ _ h=>h) (Or.inl ⟨by rfl,?_⟩) hS ?_
  · intro w' hSw
    obtain ⟨s0,s1,s2,s3,s4,s5⟩:=hSw
    go_simp
  simp only [Act.put,List.getElem_toArray,List.getElem_cons_succ,List.getElem_cons_zero,List.setIfInBounds_toArray,List.set_cons_zero,List.set_cons_succ]
  refine wpAnyH_done (by kernel_rfl) ?_ _
  refine NoPanic.normal ?_
  try simp only [Exit.then]
  have HB2:=Lib.hid (HB1.out.trans (hx1.mono HB1.out.size))
  have H2:=Lib.hid (H1.out.below hx1)
  have P22:=Lib.hid (blk_below P2.out hx1 (blk_lt P2.out))
  clear hS s0 s1 s2 s3 s4 s5 hx1 hb1
  obtain ⟨_,c0,c1,c2,c3,c4,c5⟩:=blk6 H2.out.blk
  have f5:=blk_frozen H2.out.blk 5
  cases ft with
  | true =>
   obtain ⟨_,u0,u1,u2,u3⟩:=blk4p P22.out
   have p0:=blk_frozen P22.out 0
   have p1:=blk_frozen P22.out 1
   have p2:=blk_frozen P22.out 2
   have p3:=blk_frozen P22.out 3
   go_wp2
   refine post_gen (fun Wf=>Wf.heap[w.heap.size+1]?=some (.cells #[.int .u64 N,.slice none 0 0,.slice none 0 0,.bool false] 49 (0,0))∧P (.returned (.agg #[.int .u64 N,.slice none 0 0,.slice none 0 0,.bool false])) Wf) ⟨?_,?_⟩ ?_
   · exact blk_set4 P22.out _ _ _ _
   · rw [HP.out,HRES.out,if_pos trivial]
     have hx:Exw rk rk w.heap.size w Wh1:=Exw.of_below HB2.out
     have hx4:=(((hx.setCell (p:=⟨w.heap.size+1,0,none⟩) (.inr (.inr (Nat.le_succ _))) (.int .u64 N)).setCell (p:=⟨w.heap.size+1,1,none⟩) (.inr (.inr (Nat.le_succ _))) (.slice none 0 0)).setCell (p:=⟨w.heap.size+1,2,none⟩) (.inr (.inr (Nat.le_succ _))) (.slice none 0 0)).setCell (p:=⟨w.heap.size+1,3,none⟩) (.inr (.inr (Nat.le_succ _))) (.bool false)
     refine ⟨hx4,.inl ⟨numV N,left,_,rfl,?_,rfl,vh_num _ _ N (by have:=HNB.out;omega),?_⟩⟩
     · have h8:=HLL.out;exact HL0.out
     · rw [HRC.out]
       exact HH0.out.keep HV.out hx4 ((set4_blk Wh1 (by have:=HRK.out;omega) _ _ _ _).trans H2.out.blk)
   · rintro Wf ⟨e1,e2⟩
     obtain ⟨_,d0,d1,d2,d3⟩:=blk4p e1
     exact bodyPost_ret (v:=.agg #[.int .u64 N,.slice none 0 0,.slice none 0 0,.bool false]) (by simp [results,Tryd.results95,go_sem,d0,d1,d2,d3]) rfl e2
  | false =>
   have HX2:=Lib.hid ((Exw.refl rk rk Wh1.heap.size Wh1).setCell (p:=⟨rk,5,none⟩) (.inl rfl) (.bool true))
   have HS2:=Lib.hid ((blk_set H2.out.blk 5 (.bool true)).trans rfl)
   have P23:=Lib.hid (blk_set_ne P22.out (p:=⟨rk,5,none⟩) (by have:=HRK.out;show rk≠_;omega) (.bool true))
   go_upto_region 13 with (fail)
   clear c0 c1 c2 c3 c4 c5 f5
   generalize Wh1.setCell ⟨rk,5,none⟩ (.bool true)=W2 at *
   obtain ⟨_,u0,u1,u2,u3⟩:=blk4p P23.out
   have p0:=blk_frozen P23.out 0
   have p1:=blk_frozen P23.out 1
   have p2:=blk_frozen P23.out 2
   have p3:=blk_frozen P23.out 3
   go_wp2
   refine post_gen (fun Wf=>Wf.heap[w.heap.size+1]?=some (.cells #[.int .u64 N,.slice none 0 0,.slice none 0 0,.bool false] 49 (0,0))∧P (.returned (.agg #[.int .u64 N,.slice none 0 0,.slice none 0 0,.bool false])) Wf) ⟨?_,?_⟩ ?_
   · exact blk_set4 P23.out _ _ _ _
   · rw [HP.out,HRES.out,if_neg (by decide)]
     have hx:Exw rk rk w.heap.size w W2:=(Exw.of_below HB2.out).trans (HX2.out.mono HB2.out.size)
     have hx4:=(((hx.setCell (p:=⟨w.heap.size+1,0,none⟩) (.inr (.inr (Nat.le_succ _))) (.int .u64 N)).setCell (p:=⟨w.heap.size+1,1,none⟩) (.inr (.inr (Nat.le_succ _))) (.slice none 0 0)).setCell (p:=⟨w.heap.size+1,2,none⟩) (.inr (.inr (Nat.le_succ _))) (.slice none 0 0)).setCell (p:=⟨w.heap.size+1,3,none⟩) (.inr (.inr (Nat.le_succ _))) (.bool false)
     exact ⟨hx4,.inr ⟨rfl,⟨_,rfl,vform _ _ _ _ _ _ _ _⟩,rc,HLL.out.1,HLL.out.2,HH0.out.keep HV.out hx4 ((set4_blk W2 (by have:=HRK.out;omega) _ _ _ _).trans HS2.out)⟩⟩
   · rintro Wf ⟨e1,e2⟩
     obtain ⟨_,d0,d1,d2,d3⟩:=blk4p e1
     exact bodyPost_ret (v:=.agg #[.int .u64 N,.slice none 0 0,.slice none 0 0,.bool false]) (by simp [results,Tryd.results95,go_sem,d0,d1,d2,d3]) rfl e2
 | false =>
  rw [if_neg (by decide)] at hna
  subst hna
  go_upto_region 11 with (fail)
  have s3:=c0
  have s4:=c1
  have s5:=c2
  clear c0 c1 c2 c3 c4 c5
  refine wp_region_noPanic ?_
  refine wp_region_held_drew (S:=(fun w'=>w'.cell? ⟨w.heap.size,0,none⟩=some (.int .u8 k)∧w'.cell? ⟨w.heap.size,1,none⟩=some (.int .i64 r)∧w'.cell? ⟨w.heap.size,2,none⟩=some (.int .i64 0)∧w'.cell? ⟨rk,0,none⟩=some (sv)∧w'.cell? ⟨rk,1,none⟩=some (ev)∧w'.cell? ⟨rk,2,none⟩=some (.int .i64 root))) (by kernel_rfl) ⟨s0,s1,s2,s3,s4,s5⟩ ?_
  intro hS
  refine wpAnyH_take (i:=0) (v:=.pointer (some ⟨rk,0,none⟩)) rfl (by kernel_rfl) (by kernel_rfl) (by kernel_rfl) (fun _ _ _ h=>h) (Or.inl ⟨by rfl,?_⟩) hS ?_
  · intro w' hSw
    obtain ⟨s0,s1,s2,s3,s4,s5⟩:=hSw
    go_simp
  simp only [Act.put,List.getElem_toArray,List.getElem_cons_zero,List.setIfInBounds_toArray,List.set_cons_zero,List.set_cons_succ]
  refine wpAnyH_take (i:=1) (v:=.pointer (some ⟨rk,0,none⟩)) rfl (by kernel_rfl) (by kernel_rfl) (by kernel_rfl) (fun _ _ _ h=>h) (Or.inl ⟨by rfl,?_⟩) hS ?_
  · intro w' hSw
    obtain ⟨s0,s1,s2,s3,s4,s5⟩:=hSw
    go_simp
  simp only [Act.put,List.getElem_toArray,List.getElem_cons_succ,List.getElem_cons_zero,List.setIfInBounds_toArray,List.set_cons_zero,List.set_cons_succ]
  refine wpAnyH_take (i:=2) (v:=.pointer (some ⟨rk,0,none⟩)) rfl (by kernel_rfl) (by kernel_rfl) (by kernel_rfl) (fun _ _ _ h=>h) (Or.inl ⟨by rfl,?_⟩) hS ?_
  · intro w' hSw
    obtain ⟨s0,s1,s2,s3,s4,s5⟩:=hSw
    go_simp
  simp only [Act.put,List.getElem_toArray,List.getElem_cons_succ,List.getElem_cons_zero,List.setIfInBounds_toArray,List.set_cons_zero,List.set_cons_succ]
  refine wpAnyH_take (i:=3) (v:=.agg #[sv,ev,.int .i64 root]) rfl (by kernel_rfl) (by kernel_rfl) (by kernel_rfl) (fun _ _ _ h=>h) (Or.inl ⟨by rfl,?_⟩) hS ?_
  · intro w' hSw
    obtain ⟨s0,s1,s2,s3,s4,s5⟩:=hSw
    go_simp
  simp only [Act.put,List.getElem_toArray,List.getElem_cons_succ,List.getElem_cons_zero,List.setIfInBounds_toArray,List.set_cons_zero,List.set_cons_succ]
  refine wpAnyH_take (i:=4) (v:=.agg #[.int .u8 k,.int .i64 r,.int .i64 0]) rfl (by kernel_rfl) (by kernel_rfl) (by kernel_rfl) (fun _ _ _ h=>h) (Or.inl ⟨by rfl,?_⟩) hS ?_
  · intro w' hSw
    obtain ⟨s0,s1,s2,s3,s4,s5⟩:=hSw
    go_simp
  simp only [Act.put,List.getElem_toArray,List.getElem_cons_succ,List.getElem_cons_zero,List.setIfInBounds_toArray,List.set_cons_zero,List.set_cons_succ]
  refine wpAnyH_take (i:=5) (v:=.int .u64 N) rfl (by kernel_rfl) (by kernel_rfl) (by kernel_rfl) (fun _ _ _ h=>h) (Or.inl ⟨by rfl,?_⟩) hS ?_
  · intro w' hSw
    obtain ⟨s0,s1,s2,s3,s4,s5⟩:=hSw
    go_simp
  simp only [Act.put,List.getElem_toArray,List.getElem_cons_succ,List.getElem_cons_zero,List.setIfInBounds_toArray,List.set_cons_zero,List.set_cons_succ]
  refine wpAnyH_ready (rs:=[6]) (by kernel_rfl) (by decide) (AllReadyH.cons rfl (fun K hK=>?_) AllReadyH.nil)
  rw [if_pos (by kernel_rfl)]
  go_simp
  refine (HFT.out W1.drew (HB1.out.trans (Below.mono ((Below.refl _ W1).drew) HB1.out.size))).mono ?_
  rintro e Wh1 ⟨rfl,hb1⟩
  have hx1:Below W1.heap.size W1 Wh1:=(Below.refl _ W1).drew.trans hb1
  have ns0:=cell_stays hx1 s0
  have ns1:=cell_stays hx1 s1
  have ns2:=cell_stays hx1 s2
  have ns3:=cell_stays hx1 s3
  have ns4:=cell_stays hx1 s4
  have ns5:=cell_stays hx1 s5
  refine hK.out _ _ ⟨ns0,ns1,ns2,ns3,ns4,ns5⟩ (fun hS=>?_)
  clear ns0 ns1 ns2 ns3 ns4 ns5
  refine wpAnyH_take (i:=7) (v:=.bool (!ft)) rfl (by kernel_rfl) (by kernel_rfl) (by kernel_rfl) (fun _ _ _ h=>h) (Or.inl ⟨by rfl,?_⟩) hS ?_
  · intro w' hSw
    obtain ⟨s0,s1,s2,s3,s4,s5⟩:=hSw
    go_simp
  simp only [Act.put,List.getElem_toArray,List.getElem_cons_succ,List.getElem_cons_zero,List.setIfInBounds_toArray,List.set_cons_zero,List.set_cons_succ]
  refine wpAnyH_done (by kernel_rfl) ?_ _
  refine NoPanic.normal ?_
  try simp only [Exit.then]
  have HB2:=Lib.hid (HB1.out.trans (hx1.mono HB1.out.size))
  have H2:=Lib.hid (H1.out.below hx1)
  have P22:=Lib.hid (blk_below P2.out hx1 (blk_lt P2.out))
  clear hS s0 s1 s2 s3 s4 s5 hx1 hb1
  obtain ⟨_,c0,c1,c2,c3,c4,c5⟩:=blk6 H2.out.blk
  have f5:=blk_frozen H2.out.blk 5
  cases ft with
  | true =>
   obtain ⟨_,u0,u1,u2,u3⟩:=blk4p P22.out
   have p0:=blk_frozen P22.out 0
   have p1:=blk_frozen P22.out 1
   have p2:=blk_frozen P22.out 2
   have p3:=blk_frozen P22.out 3
   go_wp2
   refine post_gen (fun Wf=>Wf.heap[w.heap.size+1]?=some (.cells #[.int .u64 N,.slice none 0 0,.slice none 0 0,.bool false] 49 (0,0))∧P (.returned (.agg #[.int .u64 N,.slice none 0 0,.slice none 0 0,.bool false])) Wf) ⟨?_,?_⟩ ?_
   · exact blk_set4 P22.out _ _ _ _
   · rw [HP.out,HRES.out,if_pos trivial]
     have hx:Exw rk rk w.heap.size w Wh1:=Exw.of_below HB2.out
     have hx4:=(((hx.setCell (p:=⟨w.heap.size+1,0,none⟩) (.inr (.inr (Nat.le_succ _))) (.int .u64 N)).setCell (p:=⟨w.heap.size+1,1,none⟩) (.inr (.inr (Nat.le_succ _))) (.slice none 0 0)).setCell (p:=⟨w.heap.size+1,2,none⟩) (.inr (.inr (Nat.le_succ _))) (.slice none 0 0)).setCell (p:=⟨w.heap.size+1,3,none⟩) (.inr (.inr (Nat.le_succ _))) (.bool false)
     refine ⟨hx4,.inl ⟨numV N,left,_,rfl,?_,rfl,vh_num _ _ N (by have:=HNB.out;omega),?_⟩⟩
     · have h8:=HLL.out;exact HL0.out
     · rw [HRC.out]
       exact HH0.out.keep HV.out hx4 ((set4_blk Wh1 (by have:=HRK.out;omega) _ _ _ _).trans H2.out.blk)
   · rintro Wf ⟨e1,e2⟩
     obtain ⟨_,d0,d1,d2,d3⟩:=blk4p e1
     exact bodyPost_ret (v:=.agg #[.int .u64 N,.slice none 0 0,.slice none 0 0,.bool false]) (by simp [results,Tryd.results95,go_sem,d0,d1,d2,d3]) rfl e2
  | false =>
   have HX2:=Lib.hid ((Exw.refl rk rk Wh1.heap.size Wh1).setCell (p:=⟨rk,5,none⟩) (.inl rfl) (.bool true))
   have HS2:=Lib.hid ((blk_set H2.out.blk 5 (.bool true)).trans rfl)
   have P23:=Lib.hid (blk_set_ne P22.out (p:=⟨rk,5,none⟩) (by have:=HRK.out;show rk≠_;omega) (.bool true))
   go_upto_region 13 with (fail)
   clear c0 c1 c2 c3 c4 c5 f5
   generalize Wh1.setCell ⟨rk,5,none⟩ (.bool true)=W2 at *
   obtain ⟨_,u0,u1,u2,u3⟩:=blk4p P23.out
   have p0:=blk_frozen P23.out 0
   have p1:=blk_frozen P23.out 1
   have p2:=blk_frozen P23.out 2
   have p3:=blk_frozen P23.out 3
   go_wp2
   refine post_gen (fun Wf=>Wf.heap[w.heap.size+1]?=some (.cells #[.int .u64 N,.slice none 0 0,.slice none 0 0,.bool false] 49 (0,0))∧P (.returned (.agg #[.int .u64 N,.slice none 0 0,.slice none 0 0,.bool false])) Wf) ⟨?_,?_⟩ ?_
   · exact blk_set4 P23.out _ _ _ _
   · rw [HP.out,HRES.out,if_neg (by decide)]
     have hx:Exw rk rk w.heap.size w W2:=(Exw.of_below HB2.out).trans (HX2.out.mono HB2.out.size)
     have hx4:=(((hx.setCell (p:=⟨w.heap.size+1,0,none⟩) (.inr (.inr (Nat.le_succ _))) (.int .u64 N)).setCell (p:=⟨w.heap.size+1,1,none⟩) (.inr (.inr (Nat.le_succ _))) (.slice none 0 0)).setCell (p:=⟨w.heap.size+1,2,none⟩) (.inr (.inr (Nat.le_succ _))) (.slice none 0 0)).setCell (p:=⟨w.heap.size+1,3,none⟩) (.inr (.inr (Nat.le_succ _))) (.bool false)
     exact ⟨hx4,.inr ⟨rfl,⟨_,rfl,vform _ _ _ _ _ _ _ _⟩,rc,HLL.out.1,HLL.out.2,HH0.out.keep HV.out hx4 ((set4_blk W2 (by have:=HRK.out;omega) _ _ _ _).trans HS2.out)⟩⟩
   · rintro Wf ⟨e1,e2⟩
     obtain ⟨_,d0,d1,d2,d3⟩:=blk4p e1
     exact bodyPost_ret (v:=.agg #[.int .u64 N,.slice none 0 0,.slice none 0 0,.bool false]) (by simp [results,Tryd.results95,go_sem,d0,d1,d2,d3]) rfl e2
end Go.Proofs.YtachghaegokpdaaDoor
namespace Go.Proofs.YtachghaegokpdaaDoor
open Go.ChangeShapes Go.WideShapes Go.ChangeAt Go.RowKit Go.Shelf
theorem SchRows.exw {base:Nat}{w W:World}{ss:List (SRec × Value)}{es:List (SCho × Value)}{sv ev:Value}(h:SchRows base w ss es sv ev){rk:Nat}{cs:Array Value}(hr:w.heap[rk]?=some (.cells cs 154 (0,0)))(hx:Exw rk rk w.heap.size w W):SchRows base W ss es sv ev:=
 ⟨hx.ownsRow h.structs (row_notblk h.structs hr (by decide)) (row_notblk h.structs hr (by decide)),
  hx.ownsRow h.enums (row_notblk h.enums hr (by decide)) (row_notblk h.enums hr (by decide)),
  fun q hq=>hx.ownsRow (h.fields q hq) (row_notblk (h.fields q hq) hr (by decide)) (row_notblk (h.fields q hq) hr (by decide)),
  fun q hq=>hx.ownsRow (h.names q hq) (row_notblk (h.names q hq) hr (by decide)) (row_notblk (h.names q hq) hr (by decide))⟩
theorem SchRows.rowV {base:Nat}{w:World}{ss:List (SRec × Value)}{es:List (SCho × Value)}{sv ev:Value}(h:SchRows base w ss es sv ev):RowV sv∧RowV ev:=by
 obtain ⟨a,c,h1⟩:=ownsRow_form h.structs
 obtain ⟨a',c',h2⟩:=ownsRow_form h.enums
 exact ⟨⟨a,_,c,h1⟩,⟨a',_,c',h2⟩⟩
structure DCtx (base B:Nat)(W:World)(rk:Nat)(sv ev:Value)(root:Int)(bp:Option Addr)(bc:Nat)(zs:List Int)(ss:List (SRec × Value))(es:List (SCho × Value))(left:Int):Prop where
 st:RdSt W rk sv ev root bp bc zs (lenZ zs-left) false
 rows:SchRows base W ss es sv ev
 hl:0≤left∧left≤lenZ zs
 hB:B≤W.heap.size∧B≤rk
 amb:Amb B W
 sch:SchM ss (es.map Prod.fst)
variable {base B:Nat} {W W':World} {rk:Nat} {sv ev:Value} {root:Int} {bp:Option Addr} {bc:Nat} {zs:List Int} {ss:List (SRec × Value)} {es:List (SCho × Value)} {left l':Int}
theorem DCtx.below (h:DCtx base B W rk sv ev root bp bc zs ss es left)(hb:Below W.heap.size W W'):DCtx base B W' rk sv ev root bp bc zs ss es left:=
 ⟨h.st.below hb,h.rows.below hb,h.hl,⟨Nat.le_trans h.hB.1 hb.size,h.hB.2⟩,h.amb.below (hb.mono h.hB.1),h.sch⟩
theorem DCtx.exw (h:DCtx base B W rk sv ev root bp bc zs ss es left)(hx:Exw rk rk W.heap.size W W')(hs:RdSt W' rk sv ev root bp bc zs (lenZ zs-l') false)(h1:0≤l'∧l'≤lenZ zs):DCtx base B W' rk sv ev root bp bc zs ss es l':=
 ⟨hs,h.rows.exw h.st.blk hx,h1,⟨Nat.le_trans h.hB.1 hx.size,h.hB.2⟩,h.amb.exw h.hB.1 h.hB.2 h.hB.2 hx,h.sch⟩
theorem DCtx.len (h:DCtx base B W rk sv ev root bp bc zs ss es left):lenZ zs≤16384:=by
 have:=h.st.len
 unfold lenZ
 omega
theorem DCtx.crows (h:DCtx base B W rk sv ev root bp bc zs ss es left)(V:World)(hx:Exw rk rk W.heap.size W V):CRows base V (crow ss) es sv ev:=(h.rows.exw h.st.blk hx).crows
def badJ (zs:List Int)(at':Int):Bool := !inZ (lenZ zs) at' 4 || !decide (at'+ldO zs at' 4≤lenZ zs)
def toJ (zs:List Int)(at':Int):Int:=if at'+ldO zs at' 4≤lenZ zs then at'+ldO zs at' 4 else 0
theorem jump_bad {zs:List Int}{at':Int}(h:badJ zs at'=true):jumpZ zs at'=none:=by
 unfold badJ ldO at h
 unfold jumpZ
 by_cases h1:inZ (lenZ zs) at' 4=true
 · rw [if_pos h1]
   rw [show inZ (lenZ zs) at' ((4:Nat):Int)=true from h1] at h
   simp only [if_true] at h
   rw [h1] at h
   simp only [Bool.not_true,Bool.false_or,Bool.not_eq_true',decide_eq_false_iff_not] at h
   exact if_neg h
 · exact if_neg h1
theorem jump_ok {zs:List Int}{at':Int}(h:badJ zs at'=false):jumpZ zs at'=some (toJ zs at')∧inZ (lenZ zs) at' 4=true:=by
 unfold badJ ldO at h
 unfold jumpZ toJ ldO
 by_cases h1:inZ (lenZ zs) at' 4=true
 · rw [if_pos h1]
   rw [show inZ (lenZ zs) at' ((4:Nat):Int)=true from h1] at h ⊢
   rw [h1] at h
   simp only [if_true,Bool.not_true,Bool.false_or,Bool.not_eq_false',decide_eq_true_eq] at h ⊢
   rw [if_pos h,if_pos h]
   exact ⟨rfl,h1⟩
 · rw [Bool.not_eq_true _ |>.mp h1] at h
   simp at h
theorem toJ_bd {zs:List Int}{at':Int}(hz:∀ i,0≤zs.getD i 0∧zs.getD i 0≤255)(ha : -1000000000≤at'∧at'≤1000000000) : -1000000000≤toJ zs at'∧toJ zs at'≤10000000000:=by
 have h:=ldO_lt (zs:=zs) (at':=at') (n:=4) hz
 unfold toJ
 split<;>omega
def reachOk (zs:List Int)(at' n left:Int):Bool:=inZ (lenZ zs) at' n&&decide (0≤left-n)
theorem reach_ctx (h:DCtx base B W rk sv ev root bp bc zs ss es left)(at' n:Int) :
  Calls Tryd.prog 93 #[.pointer (some ⟨rk,0,none⟩),.int .i64 at',.int .i64 n] W fun e w'=>Exw rk rk W.heap.size W w'∧((reachOk zs at' n left=true∧e=.returned (.bool true)∧RdSt w' rk sv ev root bp bc zs (lenZ zs-(left-n)) false) ∨
   (reachOk zs at' n left=false∧e=.returned (.bool false)∧∃ rc,0≤rc∧rc≤1000000000000∧RdSt w' rk sv ev root bp bc zs rc true)):=by
 have hl:=h.hl
 have hle:=h.len
 refine (rdreach_any W h.st h.rows.rowV at' n (by omega)).mono ?_
 rintro e w' ⟨bad',rc',he,hc,hs,hx⟩
 refine ⟨hx,?_⟩
 unfold reachOk
 by_cases hin:inZ (lenZ zs) at' n=true
 · have hi:=inZ_iff.1 hin
   rw [if_pos hin] at hc
   obtain ⟨h1,h2⟩:=hc
   rw [hin,Bool.true_and]
   by_cases h3:0≤left-n
   · left
     have h4:lenZ zs-left+n≤lenZ zs:=by omega
     rw [decide_eq_true h4] at h2
     subst h2
     have h5:rc'=lenZ zs-(left-n):=by omega
     subst h5
     exact ⟨decide_eq_true h3,he,hs⟩
   · right
     have h4:¬lenZ zs-left+n≤lenZ zs:=by omega
     rw [decide_eq_false h4] at h2
     subst h2
     exact ⟨decide_eq_false h3,he,rc',by omega,by omega,hs⟩
 · right
   rw [if_neg hin] at hc
   obtain ⟨h1,h2,h3⟩:=hc
   subst h1
   rw [Bool.not_eq_true _ |>.mp hin,Bool.false_and]
   exact ⟨rfl,h3,rc',by omega,by omega,hs⟩
end Go.Proofs.YtachghaegokpdaaDoor
namespace Go.Proofs.YtachghaegokpdaaDoor
open Go.ChangeShapes Go.WideShapes Go.ChangeAt Go.RowKit Go.Shelf
theorem num_no {k l:Nat}(h:sortP k l≠1):numTB k l=false:=by
 unfold numTB
 by_cases h0:(l:Int)=0
 · rw [h0] at h
   unfold sortP at h
   rw [if_neg (by decide),if_neg (by decide)] at h
   by_cases h1:0<kSize k
   · rw [if_pos h1] at h
     exact absurd rfl h
   · rw [decide_eq_false h1,Bool.and_false]
 · rw [decide_eq_false h0,Bool.false_and]
variable {base B:Nat} {W W':World} {rk:Nat} {sv ev:Value} {root:Int} {bp:Option Addr} {bc:Nat} {zs:List Int} {ss:List (SRec × Value)} {es:List (SCho × Value)} {left l':Int}
theorem jump_ctx (h:DCtx base B W rk sv ev root bp bc zs ss es left)(at':Int)(ha : -1000000000≤at'∧at'≤1000000000) :
  Calls Tryd.prog 75 #[.pointer (some ⟨rk,0,none⟩),.int .i64 at'] W fun e w'=>e=.returned (.int .i64 (toJ zs at'))∧RdSt w' rk sv ev root bp bc zs (lenZ zs-left) (badJ zs at')∧Exw rk rk W.heap.size W w':=by
 refine (rdjump_any W h.st h.rows.rowV at' (by omega)).mono ?_
 rintro e w' ⟨rfl,hs,hx⟩
 rw [Bool.false_or] at hs
 exact ⟨rfl,hs,hx⟩
theorem rdpost_bad {res:Option (PV × Int)}{w w':World}{val:Value}(hr:res=none)(hx:Exw rk rk w.heap.size w w')(hf:VForm val){rc:Int}(h0:0≤rc)(h1:rc≤1000000000000)(hs:RdSt w' rk sv ev root bp bc zs rc true):RdPost res w rk sv ev root bp bc zs (.returned val) w':=
 ⟨hx,.inr ⟨hr,⟨val,rfl,hf⟩,rc,h0,h1,hs⟩⟩
set_option maxRecDepth 100000 in
set_option maxHeartbeats 8000000 in
theorem rdval_bad (w:World)(h:DCtx base B w rk sv ev root bp bc zs ss es left)(k r l:Nat)(at':Int)(room:Int)(ht:TyM ss.length (es.map Prod.fst) k r l)(hs:sortP k l=2∨sortP k l=3)(ha : -1000000000≤at'∧at'≤1000000000)(hbad:(badJ zs at' || !inZ (lenZ zs) (toJ zs at') 4)=true){res:Option (PV × Int)}(hres:res=none) :
  Calls Tryd.prog 95 #[.pointer (some ⟨rk,0,none⟩),.agg #[.int .u8 k,.int .i64 r,.int .i64 l],.int .i64 at',.int .i64 room] w (RdPost res w rk sv ev root bp bc zs):=by
 have hs1:sortP k l≠1:=by omega
 obtain ⟨hb,hq1,hq2⟩:=two_start w #[.int .u8 k,.int .i64 r,.int .i64 l] #[.int .u64 0,.slice none 0 0,.slice none 0 0,.bool false] 58 49
 have HB:=Lib.hid hb
 have HQ1:=Lib.hid hq1
 have HQ2:=Lib.hid hq2
 have H0:=Lib.hid (h.below hb)
 have HH0:=Lib.hid h
 have HV:=Lib.hid h.rows.rowV
 have HZB:=Lib.hid h.st.bytes.1
 have HRK:Hid (rk<w.heap.size):=Lib.hid (blk_lt h.st.blk)
 have HAT:=Lib.hid ha
 have hk13:=ht.hi
 have HNT:Hid (∀ W,Calls Tryd.prog 48 #[.agg #[.int .u8 k,.int .i64 r,.int .i64 l]] W fun e w'=>e=.returned (.bool false)∧Below W.heap.size W w'):=Lib.hid (fun W=>by
  have h5:=rnumI_any k (by omega) r l W
  rw [num_no hs1] at h5
  exact h5)
 have HRES:=Lib.hid hres
 have HBAD:=Lib.hid hbad
 have HLL:Hid (0≤lenZ zs-left∧lenZ zs-left≤1000000000000):=Lib.hid (by have:=h.len;have:=h.hl;omega)
 obtain ⟨P,hP⟩:∃ P,RdPost res w rk sv ev root bp bc zs=P:=⟨_,rfl⟩
 rw [hP]
 have HP:=Lib.hid hP.symm
 have hty:=tyM_sort ht
 clear hb hq1 hq2 h hP hbad hres hs1 hk13 ha ht
 rcases hty with ⟨hl,hs3⟩|⟨_,_,_,hs3⟩|⟨hl,hk,hs3⟩|⟨_,_,hs3⟩
 · have hl0:((l:Int)==0)=false:=by simp;omega
   clear hs hs3 hl
   go_enter Tryd.func95,Tryd.ntmps95
   go_upto_region 1 with (fail)
   generalize (w.alloc (.cells #[.int .u8 k,.int .i64 r,.int .i64 l] 58)).alloc (.cells #[.int .u64 0,.slice none 0 0,.slice none 0 0,.bool false] 49)=W0 at *
   obtain ⟨_,c0,c1,c2,c3,c4,c5⟩:=blk6 H0.out.st.blk
   obtain ⟨_,s0,s1,s2,_⟩:=blk3 HQ1.out
   go_wp2_with fail
   refine (HNT.out _).mono ?_
   rintro e W1 ⟨rfl,hb1⟩
   have HB1:=Lib.hid (HB.out.trans (hb1.mono HB.out.size))
   have H1:=Lib.hid (H0.out.below hb1)
   have P1:=Lib.hid (blk_below HQ1.out hb1 (blk_lt HQ1.out))
   have P2:=Lib.hid (blk_below HQ2.out hb1 (blk_lt HQ2.out))
   clear hb1 c0 c1 c2 c3 c4 c5 s0 s1 s2
   go_wp2_with fail
   refine (jump_ctx H1.out at' HAT.out).mono ?_
   rintro e W2 ⟨rfl,hs2,hx2⟩
   have HX2:=Lib.hid (Exw.after HB1.out hx2)
   have S2:=Lib.hid hs2
   have P12:=Lib.hid (blk_exw P1.out hx2 (blk_lt P1.out) (by have:=HRK.out;omega) (by have:=HRK.out;omega))
   have P22:=Lib.hid (blk_exw P2.out hx2 (blk_lt P2.out) (by have:=HRK.out;omega) (by have:=HRK.out;omega))
   clear hs2 hx2
   obtain ⟨_,s0,s1,s2,_⟩:=blk3 P12.out
   go_wp2_with fail
   refine (rdnum_any W2 S2.out HV.out _ 4 (.inr rfl)).mono ?_
   rintro e W3 ⟨rfl,hs3,hx3⟩
   rw [show (badJ zs at' || !inZ (lenZ zs) (toJ zs at') ((4:Nat):Int))=true from HBAD.out] at hs3
   have HX3:=Lib.hid (HX2.out.then hx3)
   have S3:=Lib.hid hs3
   have P23:=Lib.hid (blk_exw P22.out hx3 (blk_lt P22.out) (by have:=HRK.out;omega) (by have:=HRK.out;omega))
   clear hs3 hx3 s0 s1 s2
   obtain ⟨_,c0,c1,c2,c3,c4,c5⟩:=blk6 S3.out.blk
   obtain ⟨_,u0,u1,u2,u3⟩:=blk4p P23.out
   have p0:=blk_frozen P23.out 0
   have p1:=blk_frozen P23.out 1
   have p2:=blk_frozen P23.out 2
   have p3:=blk_frozen P23.out 3
   go_wp2
   refine post_gen (fun Wf=>Wf.heap[w.heap.size+1]?=some (.cells #[.int .u64 0,.slice none 0 0,.slice none 0 0,.bool false] 49 (0,0))∧P (.returned (.agg #[.int .u64 0,.slice none 0 0,.slice none 0 0,.bool false])) Wf) ⟨?_,?_⟩ ?_
   · exact blk_set4 P23.out _ _ _ _
   · rw [HP.out]
     have hx4:=((((HX3.out).setCell (p:=⟨w.heap.size+1,0,none⟩) (.inr (.inr (show w.heap.size≤w.heap.size+1 by omega))) (.int .u64 0)).setCell (p:=⟨w.heap.size+1,1,none⟩) (.inr (.inr (show w.heap.size≤w.heap.size+1 by omega))) (.slice none 0 0)).setCell (p:=⟨w.heap.size+1,2,none⟩) (.inr (.inr (show w.heap.size≤w.heap.size+1 by omega))) (.slice none 0 0)).setCell (p:=⟨w.heap.size+1,3,none⟩) (.inr (.inr (show w.heap.size≤w.heap.size+1 by omega))) (.bool false)
     exact rdpost_bad HRES.out hx4 (vform _ _ _ _ _ _ _ _) HLL.out.1 HLL.out.2 (HH0.out.st.keep HV.out hx4 ((set4_blk W3 (by have:=HRK.out;omega) _ _ _ _).trans S3.out.blk))
   · rintro Wf ⟨e1,e2⟩
     obtain ⟨_,d0,d1,d2,d3⟩:=blk4p e1
     exact bodyPost_ret (v:=.agg #[.int .u64 0,.slice none 0 0,.slice none 0 0,.bool false]) (by simp [results,Tryd.results95,go_sem,d0,d1,d2,d3]) rfl e2
 · rw [hs3] at hs;omega
 · have hl0:((l:Int)==0)=true:=by simp;omega
   have hk0:((k:Int)==13)=false:=by simp;omega
   clear hs hs3 hl hk
   go_enter Tryd.func95,Tryd.ntmps95
   go_upto_region 1 with (fail)
   generalize (w.alloc (.cells #[.int .u8 k,.int .i64 r,.int .i64 l] 58)).alloc (.cells #[.int .u64 0,.slice none 0 0,.slice none 0 0,.bool false] 49)=W0 at *
   obtain ⟨_,c0,c1,c2,c3,c4,c5⟩:=blk6 H0.out.st.blk
   obtain ⟨_,s0,s1,s2,_⟩:=blk3 HQ1.out
   go_wp2_with fail
   refine (HNT.out _).mono ?_
   rintro e W1 ⟨rfl,hb1⟩
   have HB1:=Lib.hid (HB.out.trans (hb1.mono HB.out.size))
   have H1:=Lib.hid (H0.out.below hb1)
   have P1:=Lib.hid (blk_below HQ1.out hb1 (blk_lt HQ1.out))
   have P2:=Lib.hid (blk_below HQ2.out hb1 (blk_lt HQ2.out))
   clear hb1 c0 c1 c2 c3 c4 c5 s0 s1 s2
   go_wp2_with fail
   refine (jump_ctx H1.out at' HAT.out).mono ?_
   rintro e W2 ⟨rfl,hs2,hx2⟩
   have HX2:=Lib.hid (Exw.after HB1.out hx2)
   have S2:=Lib.hid hs2
   have P12:=Lib.hid (blk_exw P1.out hx2 (blk_lt P1.out) (by have:=HRK.out;omega) (by have:=HRK.out;omega))
   have P22:=Lib.hid (blk_exw P2.out hx2 (blk_lt P2.out) (by have:=HRK.out;omega) (by have:=HRK.out;omega))
   clear hs2 hx2
   obtain ⟨_,s0,s1,s2,_⟩:=blk3 P12.out
   go_wp2_with fail
   refine (rdnum_any W2 S2.out HV.out _ 4 (.inr rfl)).mono ?_
   rintro e W3 ⟨rfl,hs3,hx3⟩
   rw [show (badJ zs at' || !inZ (lenZ zs) (toJ zs at') ((4:Nat):Int))=true from HBAD.out] at hs3
   have HX3:=Lib.hid (HX2.out.then hx3)
   have S3:=Lib.hid hs3
   have P23:=Lib.hid (blk_exw P22.out hx3 (blk_lt P22.out) (by have:=HRK.out;omega) (by have:=HRK.out;omega))
   clear hs3 hx3 s0 s1 s2
   obtain ⟨_,c0,c1,c2,c3,c4,c5⟩:=blk6 S3.out.blk
   obtain ⟨_,u0,u1,u2,u3⟩:=blk4p P23.out
   have p0:=blk_frozen P23.out 0
   have p1:=blk_frozen P23.out 1
   have p2:=blk_frozen P23.out 2
   have p3:=blk_frozen P23.out 3
   go_wp2
   refine post_gen (fun Wf=>Wf.heap[w.heap.size+1]?=some (.cells #[.int .u64 0,.slice none 0 0,.slice none 0 0,.bool false] 49 (0,0))∧P (.returned (.agg #[.int .u64 0,.slice none 0 0,.slice none 0 0,.bool false])) Wf) ⟨?_,?_⟩ ?_
   · exact blk_set4 P23.out _ _ _ _
   · rw [HP.out]
     have hx4:=((((HX3.out).setCell (p:=⟨w.heap.size+1,0,none⟩) (.inr (.inr (show w.heap.size≤w.heap.size+1 by omega))) (.int .u64 0)).setCell (p:=⟨w.heap.size+1,1,none⟩) (.inr (.inr (show w.heap.size≤w.heap.size+1 by omega))) (.slice none 0 0)).setCell (p:=⟨w.heap.size+1,2,none⟩) (.inr (.inr (show w.heap.size≤w.heap.size+1 by omega))) (.slice none 0 0)).setCell (p:=⟨w.heap.size+1,3,none⟩) (.inr (.inr (show w.heap.size≤w.heap.size+1 by omega))) (.bool false)
     exact rdpost_bad HRES.out hx4 (vform _ _ _ _ _ _ _ _) HLL.out.1 HLL.out.2 (HH0.out.st.keep HV.out hx4 ((set4_blk W3 (by have:=HRK.out;omega) _ _ _ _).trans S3.out.blk))
   · rintro Wf ⟨e1,e2⟩
     obtain ⟨_,d0,d1,d2,d3⟩:=blk4p e1
     exact bodyPost_ret (v:=.agg #[.int .u64 0,.slice none 0 0,.slice none 0 0,.bool false]) (by simp [results,Tryd.results95,go_sem,d0,d1,d2,d3]) rfl e2
 · rw [hs3] at hs;omega
set_option maxRecDepth 100000 in
set_option maxHeartbeats 8000000 in
theorem rdtab_bad (w:World){rc:Int}(h:RdSt w rk sv ev root bp bc zs rc true)(hv:RowV sv∧RowV ev)(h0:0≤rc)(h1:rc≤1000000000000)(at' k room:Int){res:Option (PV × Int)}(hres:res=none) :
  Calls Tryd.prog 74 #[.pointer (some ⟨rk,0,none⟩),.int .i64 at',.int .i64 k,.int .i64 room] w (RdPost res w rk sv ev root bp bc zs):=by
 have hb:=(Below.refl w.heap.size w).alloc (Nat.le_refl _) (.cells #[.int .u64 0,.slice none 0 0,.slice none 0 0,.bool false] 49)
 have HB:=Lib.hid hb
 have HQ:=Lib.hid (heap_alloc_new w (.cells #[.int .u64 0,.slice none 0 0,.slice none 0 0,.bool false] 49))
 have H0:=Lib.hid (h.below hb)
 have HV:=Lib.hid hv
 have HH0:=Lib.hid h
 have HRES:=Lib.hid hres
 have HRC:=Lib.hid (And.intro h0 h1)
 have HRK:Hid (rk<w.heap.size):=Lib.hid (blk_lt h.blk)
 have hbd:0≤ldO zs at' 4∧ldO zs at' 4<4294967296:=by
  unfold ldO
  split
  · exact leAt_4 zs _ h.bytes.1
  · omega
 have hsg:=sg32_is hbd.1 hbd.2
 have hsb:=sg32_bd hbd.1 hbd.2
 have HN:=Lib.hid (fun W (hW:RdSt W rk sv ev root bp bc zs rc true)=>rdnum_any W hW hv at' 4 (.inr rfl))
 generalize sg32 (ldO zs at' 4)=s at *
 generalize ldO zs at' 4=z at *
 have hws:=IntWalk.i64_in s ⟨by omega,by omega⟩
 obtain ⟨P,hP⟩:∃ P,RdPost res w rk sv ev root bp bc zs=P:=⟨_,rfl⟩
 rw [hP]
 have HP:=Lib.hid hP.symm
 clear hb h hP hres h0 h1 hv hbd hsb
 go_enter Tryd.func74,Tryd.ntmps74
 go_upto_region 1 with (fail)
 generalize w.alloc (.cells #[.int .u64 0,.slice none 0 0,.slice none 0 0,.bool false] 49)=W0 at *
 go_wp2_with fail
 refine (HN.out W0 H0.out).mono ?_
 rintro e W1 ⟨rfl,hs1,hx1⟩
 rw [Bool.true_or] at hs1
 have HX1:=Lib.hid (Exw.after HB.out hx1)
 have S1:=Lib.hid hs1
 have P1:=Lib.hid (blk_exw HQ.out hx1 (blk_lt HQ.out) (by have:=HRK.out;omega) (by have:=HRK.out;omega))
 obtain ⟨_,c0,c1,c2,c3,c4,c5⟩:=blk6 S1.out.blk
 have f3:=blk_frozen S1.out.blk 5
 have HS2:=Lib.hid ((blk_set S1.out.blk 5 (.bool true)).trans rfl)
 have HXS:=Lib.hid (HX1.out.setCell (p:=⟨rk,5,none⟩) (.inl rfl) (.bool true))
 have P2:=Lib.hid (blk_set_ne P1.out (p:=⟨rk,5,none⟩) (by have:=HRK.out;show rk≠_;omega) (.bool true))
 clear hs1 hx1
 go_upto_region 4 with (fail)
 clear c0 c1 c2 c3 c4 c5 f3
 generalize W1.setCell ⟨rk,5,none⟩ (.bool true)=W2 at *
 obtain ⟨_,u0,u1,u2,u3⟩:=blk4p P2.out
 have p0:=blk_frozen P2.out 0
 have p1:=blk_frozen P2.out 1
 have p2:=blk_frozen P2.out 2
 have p3:=blk_frozen P2.out 3
 go_wp2
 refine post_gen (fun Wf=>Wf.heap[w.heap.size]?=some (.cells #[.int .u64 0,.slice none 0 0,.slice none 0 0,.bool false] 49 (0,0))∧P (.returned (.agg #[.int .u64 0,.slice none 0 0,.slice none 0 0,.bool false])) Wf) ⟨?_,?_⟩ ?_
 · exact blk_set4 P2.out _ _ _ _
 · rw [HP.out]
   have hx4:=((((HXS.out).setCell (p:=⟨w.heap.size,0,none⟩) (.inr (.inr (show w.heap.size≤w.heap.size by omega))) (.int .u64 0)).setCell (p:=⟨w.heap.size,1,none⟩) (.inr (.inr (show w.heap.size≤w.heap.size by omega))) (.slice none 0 0)).setCell (p:=⟨w.heap.size,2,none⟩) (.inr (.inr (show w.heap.size≤w.heap.size by omega))) (.slice none 0 0)).setCell (p:=⟨w.heap.size,3,none⟩) (.inr (.inr (show w.heap.size≤w.heap.size by omega))) (.bool false)
   exact rdpost_bad HRES.out hx4 (vform _ _ _ _ _ _ _ _) HRC.out.1 HRC.out.2 (HH0.out.keep HV.out hx4 ((set4_blk W2 (by have:=HRK.out;omega) _ _ _ _).trans HS2.out))
 · rintro Wf ⟨e1,e2⟩
   obtain ⟨_,d0,d1,d2,d3⟩:=blk4p e1
   exact bodyPost_ret (v:=.agg #[.int .u64 0,.slice none 0 0,.slice none 0 0,.bool false]) (by simp [results,Tryd.results74,go_sem,d0,d1,d2,d3]) rfl e2
end Go.Proofs.YtachghaegokpdaaDoor
