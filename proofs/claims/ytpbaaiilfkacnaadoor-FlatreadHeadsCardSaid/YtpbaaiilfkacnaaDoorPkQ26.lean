/-
  The document's own reading of tables: what it is told of; jumps, plain. Conditions: those that each theorem names.
-/
import Derived.Test.YtpbaaiilfkacnaaDoorPkQ24
namespace Go.Proofs.YtpbaaiilfkacnaaDoor
open Go.ChangeShapes Go.WideShapes Go.ChangeAt Go.RowKit Go.Shelf
set_option maxRecDepth 100000
set_option maxHeartbeats 16000000
theorem aC1 (w:World){base:Nat}{ss:List (cO × Value)}{es:List (aX × Value)}{rk:Nat}{sv ev:Value}{root:Int}{bp:Option Addr}{bc:Nat}{zs:List Int}{left:Int}(h:RdSt w rk sv ev root bp bc zs (aH zs-left) false)(hv:lU sv∧lU ev)(hR:∀ W,Exw rk rk w.heap.size w W→CRows base W ss es sv ev)(hl:0≤left∧left≤aH zs)(k r:Nat)(at' dp:Int)(hk:0<aP k)(hk255:k≤10)(hin:cV (aH zs) at' (aP k)=true) :
  Calls Tryd.prog 91 #[.pointer (some ⟨rk,0,none⟩),.agg #[.int .u8 k,.int .i64 r,.int .i64 0],.int .i64 at',.int .i64 dp] w (RdPost (oK (es.map Prod.fst) zs k r at' left) w rk sv ev root bp bc zs):=by
 obtain ⟨hb,hq1,hq2⟩:=bF w #[.int .u8 k,.int .i64 r,.int .i64 0] #[.int .u64 0,.slice none 0 0,.slice none 0 0,.bool false] 75 38;have HB:=aA hb;have HQ1:=aA hq1;have HQ2:=aA hq2;have H0:=aA (h.below hb);have HV:=aA hv;have HH0:=aA h;have HRR:=aA hR;have HRK:Hid (rk<w.heap.size):=aA (aD h.blk);have HRES:=aA (sI (es:=es.map Prod.fst) (ref:=r) (left:=left) hk hin);have HNT:Hid (∀ W,Calls Tryd.prog 38 #[.agg #[.int .u8 k,.int .i64 r,.int .i64 0]] W fun e w'=>e=.returned (.bool true)∧Below W.heap.size W w'):=aA (fun W=>by have h5:=cD k (by omega) r 0 W;rw [show cK k 0=true from by unfold cK;rw [fO hk];rfl] at h5;exact h5)
 have HWI:=aA (fun W=>(by have h5:=lA (zs.length:Int) at' (aP k) W (by omega) (by have:=h.len;omega);rw [show cV (zs.length:Int) at' (aP k)=true from hin] at h5;exact h5:Calls Tryd.prog 116 #[.int .i64 (zs.length:Int),.int .i64 at',.int .i64 (aP k)] W fun e w'=>e=.returned (.bool true)∧W=w'));have HSZ:=aA (fun W=>bY k W);have HSG:=aA (fun W=>fX k W);have HL0:=aA hl;have HLL:Hid (0≤aH zs-left∧aH zs-left≤1000000000000):=aA (by have:=h.len;unfold aH at *;omega);have hw8:=cU (k:Int);have hlen:=h.len;have hcap:=h.cap;have h1:=aW.1 hin;change 0≤at'∧0≤aP k∧aP k≤(zs.length:Int)-at' at h1;have hne:zs≠[]:=fun e=>by subst e;simp at h1;omega
 obtain ⟨b,off,rfl,_,hc⟩:=h.bytes.2 hne;obtain ⟨a,rfl⟩:∃ a:Nat,at'=a:=⟨at'.toNat,by omega⟩;have hzb:=h.bytes.1;obtain ⟨s,hs,hss⟩:=kQ hk;have hbd:=nO (at':=(a:Int)) hzb hk;have hld:dU zs (a:Int) s=aY zs a s:=by unfold dU;rw [←hs,bG hin,lN]
 have hna:dQ zs k (a:Int)=if eT k=true then cG (aY zs a s) s else aY zs a s:=by unfold dQ;rw [hs,lN,hld]
 have hzbd:0≤aY zs a s∧aY zs a s≤18446744073709551615:=by have h2:=aDw zs a hzb;have h3:=mU zs a hzb;have h4:=dW zs a hzb;have h5:=aDY zs a hzb;rcases hss with rfl|rfl|rfl|rfl<;>omega
 obtain ⟨N,hN⟩:∃ N:Nat,dQ zs k (a:Int)=N:=⟨(dQ zs k a).toNat,by omega⟩;rw [hN] at HRES hna hbd;rw [lN] at HRES;have HSI:=aA (fun W=>iA (aY zs a s) s W hzbd.1 hzbd.2);have HNU:Hid (∀ W,(∀ i,i<s→W.cell? ⟨b,off+a+i,none⟩=some (.int .u8 (zs.getD (a+i) 0)))→∀ n cap,n=s→Calls Tryd.prog 117 #[.slice (some ⟨b,off+a,none⟩) n cap] W fun e w'=>e=.returned (.int .u64 (aY zs a s))∧W=w'):=aA (fun W hW n cap hn=>by subst hn;exact yU b (off+a) n cap W (fun i=>zs.getD (a+i) 0) (by omega) hW (fun i _=>hzb _));have HCL:Hid (∀ W,Below w.heap.size w W→∀ i,i<s→W.cell? ⟨b,off+a+i,none⟩=some (.int .u8 (zs.getD (a+i) 0))):=aA (fun W hW i hi=>by have h5:=hc (a+i) (by omega);rw [←Nat.add_assoc] at h5;exact aC hW h5)
 have HFT:Hid (∀ W,Below w.heap.size w W→Calls Tryd.prog 81 #[.agg #[sv,ev,.int .i64 root],.agg #[.int .u8 k,.int .i64 r,.int .i64 0],.int .u64 N] W fun e w'=>e=.returned (.bool (dV (es.map Prod.fst) k r 0 N))∧Below W.heap.size W w'):=aA (fun W hW=>aCl W root (hR W (Exw.of_below hW)) k r 0 N (by omega) (by omega));have hw1:=cU ((a:Int)+s);have hs1:1≤s:=by omega
 rw [hs] at HSZ HWI;rw [hs] at h1;have HNB:Hid (N≤18446744073709551615):=aA (by omega);have E1:((a:Int)+s).toNat-(a:Int).toNat=s:=by omega
 have E2:((a:Int)+s).toNat=a+s:=by omega
 have E3:a+s-a=s:=by omega
 obtain ⟨P,hP⟩:∃ P,RdPost (oK (es.map Prod.fst) zs k r a left) w rk sv ev root (some ⟨b,off,none⟩) bc zs=P:=⟨_,rfl⟩;rw [hP];have HP:=aA hP.symm;clear hb hq1 hq2 h hv hP hin hR hc hzb hld hN hl hss hs hk hbd hzbd;generalize dV (es.map Prod.fst) k r 0 N=ft at *;generalize aY zs a s=z at *;obtain ⟨rc,hrc⟩:∃ rc,aH zs-left=rc:=⟨_,rfl⟩;rw [hrc] at H0 HH0 HLL;have HRC:=aA hrc;clear hrc;go_enter Tryd.func91,Tryd.ntmps91;go_upto_region 1 with (fail);generalize (w.alloc (.cells #[.int .u8 k,.int .i64 r,.int .i64 0] 75)).alloc (.cells #[.int .u64 0,.slice none 0 0,.slice none 0 0,.bool false] 38)=W0 at *;obtain ⟨_,c0,c1,c2,c3,c4,c5⟩:=bB H0.out.blk;obtain ⟨_,s0,s1,s2,_⟩:=aS HQ1.out;go_wp2_with fail;refine (HNT.out _).mono ?_;rintro e W1 ⟨rfl,hb1⟩
 have HB1:=aA (HB.out.trans (hb1.mono HB.out.size));have H1:=aA (H0.out.below hb1);have P1:=aA (aE HQ1.out hb1 (aD HQ1.out));have P2:=aA (aE HQ2.out hb1 (aD HQ2.out));clear hb1 c0 c1 c2 c3 c4 c5 s0 s1 s2;obtain ⟨_,c0,c1,c2,c3,c4,c5⟩:=bB H1.out.blk;obtain ⟨_,s0,s1,s2,_⟩:=aS P1.out;go_wp2_with fail;refine (HSZ.out _).mono ?_;rintro e _ ⟨rfl,rfl⟩;go_wp2_with fail;refine (HWI.out _).mono ?_;rintro e _ ⟨rfl,rfl⟩;go_wp2_with fail;refine (HNU.out _ (HCL.out _ HB1.out) _ _ ?_).mono ?_
 · omega
 rintro e _ ⟨rfl,rfl⟩;go_wp2_with fail;refine (HSG.out _).mono ?_;rintro e _ ⟨rfl,rfl⟩;generalize eT k=sg at *;cases sg with
 | true =>
  rw [bG rfl] at hna;rw [←hna] at HSI;clear hna;go_wp2_with fail;refine (HSI.out _).mono ?_;rintro e _ ⟨rfl,rfl⟩;go_upto_region 11 with (fail);have s3:=c0;have s4:=c1;have s5:=c2;clear c0 c1 c2 c3 c4 c5;refine gL ?_;refine rU s0 s1 s2 s3 s4 s5 ?_;intro hS;refine aK 0 (.pointer (some ⟨rk,0,none⟩)) ?_;simp only [td];refine aK 1 (.pointer (some ⟨rk,0,none⟩)) ?_;simp only [td];refine aK 2 (.pointer (some ⟨rk,0,none⟩)) ?_;simp only [td];refine aK 3 (.agg #[sv,ev,.int .i64 root]) ?_;simp only [td];refine aK 4 (.agg #[.int .u8 k,.int .i64 r,.int .i64 0]) ?_;simp only [td];refine aK 5 (.int .u64 N) ?_;simp only [td];refine bS 6 fun K hK=>?_;go_simp;refine (HFT.out W1.drew (HB1.out.trans (Below.mono ((bH _ W1).drew) HB1.out.size))).mono ?_;rintro e Wh1 ⟨rfl,hb1⟩;have hx1:Below W1.heap.size W1 Wh1:=(bH _ W1).drew.trans hb1;refine hK.out _ _ (jA hx1 ⟨s0,s1,s2,s3,s4,s5⟩) (fun hS=>?_)
  refine aK 7 (.bool (!ft)) ?_;simp only [td];refine gA (by kernel_rfl) ?_ _;refine fI ?_;try simp only [Exit.then]
  have HB2:=aA (HB1.out.trans (hx1.mono HB1.out.size));have H2:=aA (H1.out.below hx1);have P22:=aA (aE P2.out hx1 (aD P2.out));clear hS s0 s1 s2 s3 s4 s5 hx1 hb1;obtain ⟨_,c0,c1,c2,c3,c4,c5⟩:=bB H2.out.blk;have f5:=aB H2.out.blk 5;cases ft with
  | true =>
   obtain ⟨_,u0,u1,u2,u3⟩:=aF P22.out;have p0:=aB P22.out 0;have p1:=aB P22.out 1;have p2:=aB P22.out 2;have p3:=aB P22.out 3;go_wp2;refine aI (fun Wf=>Wf.heap[w.heap.size+1]?=some (.cells #[.int .u64 N,.slice none 0 0,.slice none 0 0,.bool false] 38 (0,0))∧P (.returned (.agg #[.int .u64 N,.slice none 0 0,.slice none 0 0,.bool false])) Wf) ⟨?_,?_⟩ ?_
   · exact aO P22.out _ _ _ _
   · rw [HP.out,HRES.out,bG trivial];have hx:Exw rk rk w.heap.size w Wh1:=Exw.of_below HB2.out;have hx4:=(((hx.setCell (p:=⟨w.heap.size+1,0,none⟩) (.inr (.inr (Nat.le_succ _))) (.int .u64 N)).setCell (p:=⟨w.heap.size+1,1,none⟩) (.inr (.inr (Nat.le_succ _))) (.slice none 0 0)).setCell (p:=⟨w.heap.size+1,2,none⟩) (.inr (.inr (Nat.le_succ _))) (.slice none 0 0)).setCell (p:=⟨w.heap.size+1,3,none⟩) (.inr (.inr (Nat.le_succ _))) (.bool false);refine ⟨hx4,.inl ⟨dY N,left,_,rfl,?_,rfl,qQ _ _ N (by have:=HNB.out;omega),?_⟩⟩
     · have h8:=HLL.out;exact HL0.out
     · rw [HRC.out];exact HH0.out.keep HV.out hx4 ((aQ Wh1 (by have:=HRK.out;omega) _ _ _ _).trans H2.out.blk)
   · rintro Wf ⟨e1,e2⟩;obtain ⟨_,d0,d1,d2,d3⟩:=aF e1;exact dZ (v:=.agg #[.int .u64 N,.slice none 0 0,.slice none 0 0,.bool false]) (by simp [results,Tryd.results91,go_sem,d0,d1,d2,d3]) rfl e2
  | false =>
   have HX2:=aA ((Exw.refl rk rk Wh1.heap.size Wh1).setCell (p:=⟨rk,5,none⟩) (.inl rfl) (.bool true));have HS2:=aA ((aN H2.out.blk 5 (.bool true)).trans rfl);have P23:=aA (bA P22.out (p:=⟨rk,5,none⟩) (by have:=HRK.out;show rk≠_;omega) (.bool true));go_upto_region 13 with (fail);clear c0 c1 c2 c3 c4 c5 f5;generalize Wh1.setCell ⟨rk,5,none⟩ (.bool true)=W2 at *;obtain ⟨_,u0,u1,u2,u3⟩:=aF P23.out;have p0:=aB P23.out 0;have p1:=aB P23.out 1;have p2:=aB P23.out 2;have p3:=aB P23.out 3;go_wp2;refine aI (fun Wf=>Wf.heap[w.heap.size+1]?=some (.cells #[.int .u64 N,.slice none 0 0,.slice none 0 0,.bool false] 38 (0,0))∧P (.returned (.agg #[.int .u64 N,.slice none 0 0,.slice none 0 0,.bool false])) Wf) ⟨?_,?_⟩ ?_
   · exact aO P23.out _ _ _ _
   · rw [HP.out,HRES.out,if_neg (by decide)];have hx:Exw rk rk w.heap.size w W2:=(Exw.of_below HB2.out).trans (HX2.out.mono HB2.out.size);have hx4:=(((hx.setCell (p:=⟨w.heap.size+1,0,none⟩) (.inr (.inr (Nat.le_succ _))) (.int .u64 N)).setCell (p:=⟨w.heap.size+1,1,none⟩) (.inr (.inr (Nat.le_succ _))) (.slice none 0 0)).setCell (p:=⟨w.heap.size+1,2,none⟩) (.inr (.inr (Nat.le_succ _))) (.slice none 0 0)).setCell (p:=⟨w.heap.size+1,3,none⟩) (.inr (.inr (Nat.le_succ _))) (.bool false);exact ⟨hx4,.inr ⟨rfl,⟨_,rfl,dJ _ _ _ _ _ _ _ _⟩,rc,HLL.out.1,HLL.out.2,HH0.out.keep HV.out hx4 ((aQ W2 (by have:=HRK.out;omega) _ _ _ _).trans HS2.out)⟩⟩
   · rintro Wf ⟨e1,e2⟩;obtain ⟨_,d0,d1,d2,d3⟩:=aF e1;exact dZ (v:=.agg #[.int .u64 N,.slice none 0 0,.slice none 0 0,.bool false]) (by simp [results,Tryd.results91,go_sem,d0,d1,d2,d3]) rfl e2
 | false =>
  rw [if_neg (by decide)] at hna;subst hna;go_upto_region 11 with (fail);have s3:=c0;have s4:=c1;have s5:=c2;clear c0 c1 c2 c3 c4 c5;refine gL ?_;refine rU s0 s1 s2 s3 s4 s5 ?_;intro hS;refine aK 0 (.pointer (some ⟨rk,0,none⟩)) ?_;simp only [td];refine aK 1 (.pointer (some ⟨rk,0,none⟩)) ?_;simp only [td];refine aK 2 (.pointer (some ⟨rk,0,none⟩)) ?_;simp only [td];refine aK 3 (.agg #[sv,ev,.int .i64 root]) ?_;simp only [td];refine aK 4 (.agg #[.int .u8 k,.int .i64 r,.int .i64 0]) ?_;simp only [td];refine aK 5 (.int .u64 N) ?_;simp only [td];refine bS 6 fun K hK=>?_;go_simp;refine (HFT.out W1.drew (HB1.out.trans (Below.mono ((bH _ W1).drew) HB1.out.size))).mono ?_;rintro e Wh1 ⟨rfl,hb1⟩;have hx1:Below W1.heap.size W1 Wh1:=(bH _ W1).drew.trans hb1;refine hK.out _ _ (jA hx1 ⟨s0,s1,s2,s3,s4,s5⟩) (fun hS=>?_);refine aK 7 (.bool (!ft)) ?_;simp only [td];refine gA (by kernel_rfl) ?_ _
  refine fI ?_;try simp only [Exit.then]
  have HB2:=aA (HB1.out.trans (hx1.mono HB1.out.size));have H2:=aA (H1.out.below hx1);have P22:=aA (aE P2.out hx1 (aD P2.out));clear hS s0 s1 s2 s3 s4 s5 hx1 hb1;obtain ⟨_,c0,c1,c2,c3,c4,c5⟩:=bB H2.out.blk;have f5:=aB H2.out.blk 5;cases ft with
  | true =>
   obtain ⟨_,u0,u1,u2,u3⟩:=aF P22.out;have p0:=aB P22.out 0;have p1:=aB P22.out 1;have p2:=aB P22.out 2;have p3:=aB P22.out 3;go_wp2;refine aI (fun Wf=>Wf.heap[w.heap.size+1]?=some (.cells #[.int .u64 N,.slice none 0 0,.slice none 0 0,.bool false] 38 (0,0))∧P (.returned (.agg #[.int .u64 N,.slice none 0 0,.slice none 0 0,.bool false])) Wf) ⟨?_,?_⟩ ?_
   · exact aO P22.out _ _ _ _
   · rw [HP.out,HRES.out,bG trivial];have hx:Exw rk rk w.heap.size w Wh1:=Exw.of_below HB2.out;have hx4:=(((hx.setCell (p:=⟨w.heap.size+1,0,none⟩) (.inr (.inr (Nat.le_succ _))) (.int .u64 N)).setCell (p:=⟨w.heap.size+1,1,none⟩) (.inr (.inr (Nat.le_succ _))) (.slice none 0 0)).setCell (p:=⟨w.heap.size+1,2,none⟩) (.inr (.inr (Nat.le_succ _))) (.slice none 0 0)).setCell (p:=⟨w.heap.size+1,3,none⟩) (.inr (.inr (Nat.le_succ _))) (.bool false);refine ⟨hx4,.inl ⟨dY N,left,_,rfl,?_,rfl,qQ _ _ N (by have:=HNB.out;omega),?_⟩⟩
     · have h8:=HLL.out;exact HL0.out
     · rw [HRC.out];exact HH0.out.keep HV.out hx4 ((aQ Wh1 (by have:=HRK.out;omega) _ _ _ _).trans H2.out.blk)
   · rintro Wf ⟨e1,e2⟩;obtain ⟨_,d0,d1,d2,d3⟩:=aF e1;exact dZ (v:=.agg #[.int .u64 N,.slice none 0 0,.slice none 0 0,.bool false]) (by simp [results,Tryd.results91,go_sem,d0,d1,d2,d3]) rfl e2
  | false =>
   have HX2:=aA ((Exw.refl rk rk Wh1.heap.size Wh1).setCell (p:=⟨rk,5,none⟩) (.inl rfl) (.bool true));have HS2:=aA ((aN H2.out.blk 5 (.bool true)).trans rfl);have P23:=aA (bA P22.out (p:=⟨rk,5,none⟩) (by have:=HRK.out;show rk≠_;omega) (.bool true));go_upto_region 13 with (fail);clear c0 c1 c2 c3 c4 c5 f5;generalize Wh1.setCell ⟨rk,5,none⟩ (.bool true)=W2 at *;obtain ⟨_,u0,u1,u2,u3⟩:=aF P23.out;have p0:=aB P23.out 0;have p1:=aB P23.out 1;have p2:=aB P23.out 2;have p3:=aB P23.out 3;go_wp2;refine aI (fun Wf=>Wf.heap[w.heap.size+1]?=some (.cells #[.int .u64 N,.slice none 0 0,.slice none 0 0,.bool false] 38 (0,0))∧P (.returned (.agg #[.int .u64 N,.slice none 0 0,.slice none 0 0,.bool false])) Wf) ⟨?_,?_⟩ ?_
   · exact aO P23.out _ _ _ _
   · rw [HP.out,HRES.out,if_neg (by decide)];have hx:Exw rk rk w.heap.size w W2:=(Exw.of_below HB2.out).trans (HX2.out.mono HB2.out.size);have hx4:=(((hx.setCell (p:=⟨w.heap.size+1,0,none⟩) (.inr (.inr (Nat.le_succ _))) (.int .u64 N)).setCell (p:=⟨w.heap.size+1,1,none⟩) (.inr (.inr (Nat.le_succ _))) (.slice none 0 0)).setCell (p:=⟨w.heap.size+1,2,none⟩) (.inr (.inr (Nat.le_succ _))) (.slice none 0 0)).setCell (p:=⟨w.heap.size+1,3,none⟩) (.inr (.inr (Nat.le_succ _))) (.bool false);exact ⟨hx4,.inr ⟨rfl,⟨_,rfl,dJ _ _ _ _ _ _ _ _⟩,rc,HLL.out.1,HLL.out.2,HH0.out.keep HV.out hx4 ((aQ W2 (by have:=HRK.out;omega) _ _ _ _).trans HS2.out)⟩⟩
   · rintro Wf ⟨e1,e2⟩;obtain ⟨_,d0,d1,d2,d3⟩:=aF e1;exact dZ (v:=.agg #[.int .u64 N,.slice none 0 0,.slice none 0 0,.bool false]) (by simp [results,Tryd.results91,go_sem,d0,d1,d2,d3]) rfl e2
theorem SchRows.exw {base:Nat}{w W:World}{ss:List (bK × Value)}{es:List (aX × Value)}{sv ev:Value}(h:SchRows base w ss es sv ev){rk:Nat}{cs:Array Value}(hr:w.heap[rk]?=some (.cells cs 157 (0,0)))(hx:Exw rk rk w.heap.size w W):SchRows base W ss es sv ev:=
 ⟨hx.ownsRow h.structs (cY h.structs hr (by decide)) (cY h.structs hr (by decide)),
  hx.ownsRow h.enums (cY h.enums hr (by decide)) (cY h.enums hr (by decide)),
  fun q hq=>hx.ownsRow (h.fields q hq) (cY (h.fields q hq) hr (by decide)) (cY (h.fields q hq) hr (by decide)),
  fun q hq=>hx.ownsRow (h.names q hq) (cY (h.names q hq) hr (by decide)) (cY (h.names q hq) hr (by decide))⟩
theorem SchRows.rowV {base:Nat}{w:World}{ss:List (bK × Value)}{es:List (aX × Value)}{sv ev:Value}(h:SchRows base w ss es sv ev):lU sv∧lU ev:=by obtain ⟨a,c,h1⟩:=aJ h.structs;obtain ⟨a',c',h2⟩:=aJ h.enums;exact ⟨⟨a,_,c,h1⟩,⟨a',_,c',h2⟩⟩
structure DCtx (base B:Nat)(W:World)(rk:Nat)(sv ev:Value)(root:Int)(bp:Option Addr)(bc:Nat)(zs:List Int)(ss:List (bK × Value))(es:List (aX × Value))(left:Int):Prop where
 st:RdSt W rk sv ev root bp bc zs (aH zs-left) false
 rows:SchRows base W ss es sv ev
 hl:0≤left∧left≤aH zs
 hB:B≤W.heap.size∧B≤rk
 amb:Amb B W
 sch:jP ss (es.map Prod.fst)
variable {base B:Nat} {W W':World} {rk:Nat} {sv ev:Value} {root:Int} {bp:Option Addr} {bc:Nat} {zs:List Int} {ss:List (bK × Value)} {es:List (aX × Value)} {left l':Int}
theorem DCtx.below (h:DCtx base B W rk sv ev root bp bc zs ss es left)(hb:Below W.heap.size W W'):DCtx base B W' rk sv ev root bp bc zs ss es left:=
 ⟨h.st.below hb,h.rows.below hb,h.hl,⟨eM h.hB.1 hb.size,h.hB.2⟩,h.amb.below (hb.mono h.hB.1),h.sch⟩
theorem DCtx.exw (h:DCtx base B W rk sv ev root bp bc zs ss es left)(hx:Exw rk rk W.heap.size W W')(hs:RdSt W' rk sv ev root bp bc zs (aH zs-l') false)(h1:0≤l'∧l'≤aH zs):DCtx base B W' rk sv ev root bp bc zs ss es l':=
 ⟨hs,h.rows.exw h.st.blk hx,h1,⟨eM h.hB.1 hx.size,h.hB.2⟩,h.amb.exw h.hB.1 h.hB.2 h.hB.2 hx,h.sch⟩
theorem DCtx.len (h:DCtx base B W rk sv ev root bp bc zs ss es left):aH zs≤16384:=by have:=h.st.len;unfold aH;omega
theorem DCtx.crows (h:DCtx base B W rk sv ev root bp bc zs ss es left)(V:World)(hx:Exw rk rk W.heap.size W V):CRows base V (fF ss) es sv ev:=(h.rows.exw h.st.blk hx).crows
def jJ (zs:List Int)(at':Int):Bool := !cV (aH zs) at' 4 || !decide (at'+dU zs at' 4≤aH zs)
def eR (zs:List Int)(at':Int):Int:=if at'+dU zs at' 4≤aH zs then at'+dU zs at' 4 else 0
theorem aAg {zs:List Int}{at':Int}(h:jJ zs at'=true):fM zs at'=none:=by
 unfold jJ dU at h;unfold fM;by_cases h1:cV (aH zs) at' 4=true
 · rw [bG h1];rw [show cV (aH zs) at' ((4:Nat):Int)=true from h1] at h;simp only [if_true] at h;rw [h1] at h;simp only [Bool.not_true,Bool.false_or,Bool.not_eq_true',decide_eq_false_iff_not] at h;exact if_neg h
 · exact if_neg h1
theorem aBv {zs:List Int}{at':Int}(h:jJ zs at'=false):fM zs at'=some (eR zs at')∧cV (aH zs) at' 4=true:=by
 unfold jJ dU at h;unfold fM eR dU;by_cases h1:cV (aH zs) at' 4=true
 · rw [bG h1];rw [show cV (aH zs) at' ((4:Nat):Int)=true from h1] at h ⊢;rw [h1] at h;simp only [if_true,Bool.not_true,Bool.false_or,Bool.not_eq_false',decide_eq_true_eq] at h ⊢;rw [bG h,bG h];exact ⟨rfl,h1⟩
 · rw [Bool.not_eq_true _ |>.mp h1] at h;simp at h
theorem aDS {zs:List Int}{at':Int}(hz:∀ i,0≤zs.getD i 0∧zs.getD i 0≤255)(ha : -1000000000≤at'∧at'≤1000000000) : -1000000000≤eR zs at'∧eR zs at'≤10000000000:=by have h:=aD8 (zs:=zs) (at':=at') (n:=4) hz;unfold eR;split<;>omega
def dC (zs:List Int)(at' n left:Int):Bool:=cV (aH zs) at' n&&decide (0≤left-n)
theorem fW (h:DCtx base B W rk sv ev root bp bc zs ss es left)(at' n:Int) :
  Calls Tryd.prog 90 #[.pointer (some ⟨rk,0,none⟩),.int .i64 at',.int .i64 n] W fun e w'=>Exw rk rk W.heap.size W w'∧((dC zs at' n left=true∧e=.returned (.bool true)∧RdSt w' rk sv ev root bp bc zs (aH zs-(left-n)) false) ∨
   (dC zs at' n left=false∧e=.returned (.bool false)∧∃ rc,0≤rc∧rc≤1000000000000∧RdSt w' rk sv ev root bp bc zs rc true)):=by
 have hl:=h.hl;have hle:=h.len;refine (zS W h.st h.rows.rowV at' n (by omega)).mono ?_;rintro e w' ⟨bad',rc',he,hc,hs,hx⟩;refine ⟨hx,?_⟩;unfold dC;by_cases hin:cV (aH zs) at' n=true
 · have hi:=aW.1 hin;rw [bG hin] at hc;obtain ⟨h1,h2⟩:=hc;rw [hin,Bool.true_and];by_cases h3:0≤left-n
   · left;have h4:aH zs-left+n≤aH zs:=by omega
     rw [fO h4] at h2;subst h2;have h5:rc'=aH zs-(left-n):=by omega
     subst h5;exact ⟨fO h3,he,hs⟩
   · right;have h4:¬aH zs-left+n≤aH zs:=by omega
     rw [iB h4] at h2;subst h2;exact ⟨iB h3,he,rc',by omega,by omega,hs⟩
 · right;rw [if_neg hin] at hc;obtain ⟨h1,h2,h3⟩:=hc;subst h1;rw [Bool.not_eq_true _ |>.mp hin,Bool.false_and];exact ⟨rfl,h3,rc',by omega,by omega,hs⟩
end Go.Proofs.YtpbaaiilfkacnaaDoor
