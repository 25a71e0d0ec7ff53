/-
  The document's writer of tables, a table: where its fields stand; a row of truths that is made and written. Conditions: those that each theorem names.
-/
import Derived.Test.YtpbaaiilfkacnaaDoorPkQ28
import Derived.Test.YtpbaaiilfkacnaaDoorPkQ29
namespace Go.Proofs.YtpbaaiilfkacnaaDoor
open Go.ChangeShapes Go.WideShapes Go.ChangeAt Go.RowKit Go.Shelf
set_option maxRecDepth 100000
set_option maxHeartbeats 16000000
variable {b:Nat} {w0 W:World} {wk:Nat} {A:Option Addr} {cap:Nat} {sv ev:Value} {root:Int} {zs:List Int} {ss:List (bK × Value)} {es:List (aX × Value)}
theorem aF3 {ys:List Int}(h:∀ i,0≤ys.getD i 0∧ys.getD i 0≤255):∀ z ∈ ys,0≤z∧z≤255:=fun z hz=>by obtain ⟨i,hi,rfl⟩:=List.getElem_of_mem hz;have h1:=h i;rw [List.getD,iO hi,Option.getD_some] at h1;exact h1
theorem aCw (h:ECtx b w0 W wk A cap sv ev root zs ss es)(k ref:Nat)(v:PV)(val:Value)(a:Nat)(hv:IsV w0 v val)(hk:0<aP k)(hk10:k≤10)(ha:a+(aP k).toNat≤zs.length)(hl:zs.length≤70368744177664) :
  Calls Tryd.prog 66 #[.pointer (some ⟨wk,0,none⟩),.agg #[.int .u8 k,.int .i64 ref,.int .i64 0],val,.int .i64 a] W (dR (.tuple #[]) w0.heap.size wk A sv ev root (kL a (aP k).toNat v.num zs) W):=by
 obtain ⟨ba,ka,bc,kc,rfl,hn,hby,hbl,hbm,hkl,hkm,_⟩:=hv.form;have hb0:=h.bel.size;obtain ⟨hb,hq1,hq2⟩:=bF W #[.int .u8 k,.int .i64 ref,.int .i64 0] #[.int .u64 v.num,.slice ba v.bytes.length bc,.slice ka v.kids.length kc,.bool v.has] 75 38;have HB:=aA hb;have L1:=aA (Loc.new h.st bD hq1);have L2:=aA (Loc.new h.st (Nat.le_succ _) hq2);have H0:=aA (h.below hb);have HX0:=aA (Wx.of_below (wk:=wk) A hb);have HN0:=aA (fun W'=>cD k (by omega) ref 0 W');have HBY:=aA hby;have HBL:=aA hbl;have HB0:=aA hb0;obtain ⟨P,hP⟩:∃ P,dR (.tuple #[]) w0.heap.size wk A sv ev root (kL a (aP k).toNat v.num zs) W=P:=⟨_,rfl⟩;rw [hP];have HP:=aA hP.symm;have hnum:cK k 0=true:=by unfold cK;rw [fO hk];rfl
 rw [hnum] at HN0;obtain ⟨s,hs,hs8⟩:∃ s:Nat,aP k=s∧s≤8:=by obtain ⟨s,h1,h2⟩:=kQ hk;exact ⟨s,h1,by omega⟩
 have HSZ:=aA (fun W'=>bY k W');rw [hs] at HSZ HP ha;rw [lN] at HP ha;have hw8:=cU (k:Int);have HA:=aA ha;have HL:=aA hl;have HS8:=aA hs8;clear hb hq1 hq2 hP h hv hby hbl hbm hkl hkm hs hs8 ha hl hk hnum hb0;go_enter Tryd.func66,Tryd.ntmps66;go_upto_region 7 with (fail);generalize (W.alloc (.cells #[.int .u8 k,.int .i64 ref,.int .i64 0] 75)).alloc (.cells #[.int .u64 v.num,.slice ba v.bytes.length bc,.slice ka v.kids.length kc,.bool v.has] 38)=W1 at *;obtain ⟨_,t0,t1,t2,_⟩:=aS L1.out.1;go_wp2_with fail;refine (HN0.out _).mono ?_;rintro e W2 ⟨rfl,hb2⟩;have H2:=aA (H0.out.below hb2);have HX2:=aA (HX0.out.trans (Wx.of_below A hb2));have M1:=aA (L1.out.bel hb2);have M2:=aA (L2.out.bel hb2);clear hb2 t0 t1 t2;obtain ⟨_,t0,t1,t2,_⟩:=aS M1.out.1;obtain ⟨_,u0,u1,u2,u3⟩:=aF M2.out.1
 go_upto_region 8 with (fail);have s0:=t0;have s1:=u0;clear t0 t1 t2 u0 u1 u2 u3;refine gL ?_;refine aGl s0 s1 ?_;intro hS;refine aK 0 (.pointer (some ⟨wk,0,none⟩)) ?_;simp only [td];refine aK 1 (.int .i64 a) ?_;simp only [td];refine aK 2 (.pointer (some ⟨W.heap.size,0,none⟩)) ?_;simp only [td];refine aK 3 (.int .u8 k) ?_;simp only [td];refine aK 4 (.int .i64 k) ?_;simp only [td];refine aK 6 (.pointer (some ⟨W.heap.size+1,0,none⟩)) ?_;simp only [td];refine aK 7 (.int .u64 v.num) ?_;simp only [td];refine bS 5 fun K hK=>?_;go_simp;refine (HSZ.out W2.drew).mono ?_;rintro e _ ⟨rfl,rfl⟩;refine hK.out _ _ (aGG ((bH _ W2).drew) ⟨s0,s1⟩) (fun hS=>?_);refine bS 8 fun K hK=>?_;go_simp;refine (mA W2.drew (H2.out.below (bH _ _).drew).st a s v.num HS8.out HA.out HL.out (eM HB0.out (eM HX2.out.size bD))).mono ?_;rintro e W3 hp;obtain ⟨A3,c3,rfl,h3,hx3⟩:=(H2.out.below (bH _ _).drew).post hp
 have hxx:=(Wx.of_below (wk:=wk) A (bH W2.heap.size W2).drew).trans hx3;have N1:=M1.out.wx hxx;have N2:=M2.out.wx hxx;have H3:=aA h3;have HX3:=aA (HX2.out.trans hxx);refine hK.out _ _ ⟨(aS N1.1).2.1,(aF N2.1).2.1⟩ (fun hS=>?_);clear N1 N2 hxx hp h3 hx3;refine gA (by kernel_rfl) ?_ _;refine fI ?_;try simp only [Exit.then]
 go_wp2;first|refine bodyPost_end (v:=.tuple #[]) (by simp [results,Tryd.results66,go_sem]) rfl ?_|refine dZ (v:=.tuple #[]) (by simp [results,Tryd.results66,go_sem]) rfl ?_
 rw [HP.out];exact ⟨rfl,A3,c3,H3.out.st,HX3.out⟩
theorem yT (h:ECtx b w0 W wk A cap sv ev root zs ss es)(k ref:Nat)(v:PV)(val:Value)(a:Nat)(hv:IsV w0 v val)(hk:k=11∨k=12)(ha:a+4≤zs.length)(hl:(lH k v a zs).length≤70368744177664) :
  Calls Tryd.prog 66 #[.pointer (some ⟨wk,0,none⟩),.agg #[.int .u8 k,.int .i64 ref,.int .i64 0],val,.int .i64 a] W (dR (.tuple #[]) w0.heap.size wk A sv ev root (lH k v a zs) W):=by
 have hk255:k≤255:=by omega
 obtain ⟨ba,ka,bc,kc,rfl,hn,hby,hbl,hbm,hkl,hkm,_⟩:=hv.form;have hb0:=h.bel.size;obtain ⟨hb,hq1,hq2⟩:=bF W #[.int .u8 k,.int .i64 ref,.int .i64 0] #[.int .u64 v.num,.slice ba v.bytes.length bc,.slice ka v.kids.length kc,.bool v.has] 75 38;have HB:=aA hb;have L1:=aA (Loc.new h.st bD hq1);have L2:=aA (Loc.new h.st (Nat.le_succ _) hq2);have H0:=aA (h.below hb);have HX0:=aA (Wx.of_below (wk:=wk) A hb);have HN0:=aA (fun W'=>cD k (by omega) ref 0 W');have HBY:=aA hby;have HBL:=aA hbl;have HB0:=aA hb0;obtain ⟨P,hP⟩:∃ P,dR (.tuple #[]) w0.heap.size wk A sv ev root (lH k v a zs) W=P:=⟨_,rfl⟩;rw [hP];have HP:=aA hP.symm;have hnum:cK k 0=false:=by rcases hk with rfl|rfl<;>decide
 rw [hnum] at HN0;have hk13:((k:Int)==13)=false:=by simp;omega
 have hpl:=iK 4 zs;have hlen:(cQ 4 zs).length+4+v.bytes.length+1≤70368744177664+1:=by unfold lH at hl;rw [List.length_append,List.length_append,bX,bC] at hl;omega
 have HLEN:=aA hlen;have HPL:=aA hpl;have HA:=aA ha;have HKK:=aA hk;have hwl:=IntWalk.u64_in (v.bytes.length:Int) ⟨by omega,by omega⟩;obtain ⟨pl,hpl2⟩:∃ pl,(cQ 4 zs).length=pl:=⟨_,rfl⟩;have HPL2:=aA hpl2;rw [hpl2] at hpl hlen;have hws:=cU ((pl:Int)-a);have hwu:=IntWalk.u64_in ((pl:Int)-a) ⟨by omega,by omega⟩;clear hb hq1 hq2 hP h hv hby hbl hbm hkl hkm ha hl hk hnum hb0 hpl hlen hpl2;go_enter Tryd.func66,Tryd.ntmps66;go_upto_region 7 with (fail);generalize (W.alloc (.cells #[.int .u8 k,.int .i64 ref,.int .i64 0] 75)).alloc (.cells #[.int .u64 v.num,.slice ba v.bytes.length bc,.slice ka v.kids.length kc,.bool v.has] 38)=W1 at *;obtain ⟨_,t0,t1,t2,_⟩:=aS L1.out.1;go_wp2_with fail;refine (HN0.out _).mono ?_;rintro e W2 ⟨rfl,hb2⟩;have H2:=aA (H0.out.below hb2)
 have HX2:=aA (HX0.out.trans (Wx.of_below A hb2));have M1:=aA (L1.out.bel hb2);have M2:=aA (L2.out.bel hb2);clear hb2 t0 t1 t2;obtain ⟨_,t0,t1,t2,_⟩:=aS M1.out.1;obtain ⟨_,u0,u1,u2,u3⟩:=aF M2.out.1;go_wp2_with fail;refine (jD W2 H2.out.st 4 (.inr (.inl rfl)) (by have:=HLEN.out;have:=HPL.out;omega) H2.out.bel.size).mono ?_;rintro e W3 hp;obtain ⟨A3,c3,rfl,h3,hx3⟩:=H2.out.post hp;have H3:=aA h3;have HX3:=aA (HX2.out.trans hx3);have M13:=aA (M1.out.wx hx3);have M23:=aA (M2.out.wx hx3);clear hp h3 hx3 t0 t1 t2 u0 u1 u2 u3;obtain ⟨_,u0,u1,u2,u3⟩:=aF M23.out.1;go_wp2_with fail;refine (jI W3 H3.out.st 4 (v.bytes.length:Int) (by decide) (by have:=HLEN.out;omega) H3.out.bel.size).mono ?_;rintro e W4 hp;obtain ⟨A4,c4,rfl,h4,hx4⟩:=H3.out.post hp;rw [HPL2.out];have H4:=aA h4;have HX4:=aA (HX3.out.trans hx4);have M14:=aA (M13.out.wx hx4);have M24:=aA (M23.out.wx hx4);clear hp h4 hx4 u0 u1 u2 u3
 go_wp2_with fail;refine (mA W4 H4.out.st a 4 ((pl:Int)-a) (by decide) (by rw [bC];have:=HA.out;have:=HPL.out;omega) (by rw [bC];have:=HLEN.out;omega) H4.out.bel.size).mono ?_;rintro e W5 hp;obtain ⟨A5,c5,rfl,h5,hx5⟩:=H4.out.post hp;have H5:=aA h5;have HX5:=aA (HX4.out.trans hx5);have M15:=aA (M14.out.wx hx5);have M25:=aA (M24.out.wx hx5);clear hp h5 hx5;have hl5:(kL a 4 ((pl:Int)-a) (hI 4 (v.bytes.length:Nat) (cQ 4 zs))).length=pl+4:=by rw [bX,bC,HPL2.out]
 have HL5:=aA hl5;obtain ⟨_,_,_,_,c53⟩:=aF H5.out.st.blk;obtain ⟨_,u0,u1,u2,u3⟩:=aF M25.out.1;rw [hl5] at c53;have HRES:Hid (lH k v a zs=kL a 4 ((pl:Int)-a) (hI 4 (v.bytes.length:Nat) (cQ 4 zs))++v.bytes++(if k=11 then [0] else [])):=aA (by rw [←HPL2.out];rfl);generalize kL a 4 ((pl:Int)-a) (hI 4 (v.bytes.length:Nat) (cQ 4 zs))=z5 at *;clear hl5;go_upto_region 4 with (fail);have s0:=c53;have s1:=u1;clear c53 u0 u1 u2 u3;refine gL ?_;refine eG 10 (fun _=>True) (fun w'=>w'.cell? ⟨wk,3,none⟩=some (.slice A5 (pl+4) c5)∧w'.cell? ⟨W.heap.size+1,1,none⟩=some (.slice ba v.bytes.length bc)) (by kernel_rfl) ?_;have HB0':=aA ((bH W5.heap.size W5).drew);have HD5:=aA (H5.out.below HB0'.out);have HXD:=aA (HX5.out.trans (Wx.of_below A5 HB0'.out));have M15d:=aA (M15.out.bel HB0'.out);have M25d:=aA (M25.out.bel HB0'.out);have hV:=cJ (aC HB0'.out s0) (aC HB0'.out s1);generalize W5.drew=V0 at *
 have hU:True:=trivial;refine tt 0 (.pointer (some ⟨wk,0,none⟩)) hU hV ?_ ?_
 · intro w' hSw;obtain ⟨_,⟨t0,t1⟩⟩:=hSw;go_simp
 simp only [td];refine tt 1 (.pointer (some ⟨wk,0,none⟩)) hU hV ?_ ?_
 · intro w' hSw;obtain ⟨_,⟨t0,t1⟩⟩:=hSw;go_simp
 simp only [td];refine tt 2 (.pointer (some ⟨wk,0,none⟩)) hU hV ?_ ?_
 · intro w' hSw;obtain ⟨_,⟨t0,t1⟩⟩:=hSw;go_simp
 simp only [td];refine tt 3 (.pointer (some ⟨wk,3,none⟩)) hU hV ?_ ?_
 · intro w' hSw;obtain ⟨_,⟨t0,t1⟩⟩:=hSw;go_simp
 simp only [td];refine tt 4 (.slice A5 (pl+4) c5) hU hV ?_ ?_
 · intro w' hSw;obtain ⟨_,⟨t0,t1⟩⟩:=hSw;go_simp
 simp only [td];refine tt 5 (.pointer (some ⟨W.heap.size+1,1,none⟩)) hU hV ?_ ?_
 · intro w' hSw;obtain ⟨_,⟨t0,t1⟩⟩:=hSw;go_simp
 simp only [td];refine tt 6 (.slice ba v.bytes.length bc) hU hV ?_ ?_
 · intro w' hSw;obtain ⟨_,⟨t0,t1⟩⟩:=hSw;go_simp
 simp only [td];obtain ⟨i0,hi0,hzz0,hzz1,hzz2⟩:=info_parts gT;have hsrc:=kA (HBY.out.below bD HD5.out.bel) (fun _ _ h=>h) bc;have hown:=HD5.out.st.own;unfold kV at hown;rw [HL5.out] at hown;obtain ⟨v4,V2,hrun,hown4,hg4,hat4⟩:=iD (P:=Tryd.prog) (w:=V0) w0.heap.size 22 22 22 5 i0 (.int .u8 0) 1 Tryd.underlying22 hi0 hzz0 hzz1 rfl (.slice A5 (pl+4) c5) (pl+4) (eI z5) hown _ v.bytes.length _ hsrc (by have:=HLEN.out;have:=HPL2.out;unfold maxLen;omega) (by rw [hzz2];have:=HLEN.out;have:=HPL2.out;omega) HD5.out.bel.size;have hap:=pZ (news:=v.bytes) (A:=A5) (cap:=c5) (n:=pl+4) (n4:=pl+4+v.bytes.length) HD5.out.st (bH _ _) rfl hg4 (by rw [HL5.out]) (by simpa [eI,bW] using hown4) hat4 (aF3 HBY.out.1);obtain ⟨A4,cap4,rfl,h8,hs4,hx4⟩:=hap;have H6:=aA (HD5.out.step hs4 hx4);have HX6:=aA (HXD.out.trans hx4);have M16:=aA (M15d.out.wx hx4)
 rw [HL5.out] at h8;have hV2:=cJ ((aF h8).2.2.2.2) (show V2.cell? ⟨W.heap.size+1,1,none⟩=some (.slice ba v.bytes.length bc) from by have h1:=(hg4.block (W.heap.size+1) (iI M25d.out.1) (by have h2:=M25d.out.2.2;rw [dI];exact h2)).trans M25d.out.1;exact (aF h1).2.2.1);have m3f:=aB h8 3;clear hown4 hg4 hat4 h8 hs4 hx4 hsrc hi0 hzz0 hzz1 hzz2 i0 hown;refine cA (i:=7) (by kernel_rfl) rfl (fun K hK=>?_);rw [bG (by kernel_rfl)];refine eD _ (.tmp 28) (.tmp 30) 22 rfl _ _ _ _ rfl rfl hrun ?_;refine hK.out _ _ trivial hV2 ?_;clear hK K hrun;have hV:=hV2;clear hV2;refine cA (i:=8) (by kernel_rfl) rfl (fun K hK=>?_);rw [bG (by kernel_rfl)];go_simp;refine hK.out _ _ trivial hV ?_;clear hK K;refine tt 9 (.pointer (some ⟨wk,3,none⟩)) hU hV ?_ ?_
 · intro w' hSw;obtain ⟨_,⟨t0,t1⟩⟩:=hSw;go_simp
 simp only [td];have m3:=hV.1;refine eW (by kernel_rfl) rfl (fun K hK=>?_);rw [bG (by kernel_rfl)];go_simp;refine hK.out _ _ trivial ?_;clear hK K hV m3 m3f;refine eX (by kernel_rfl) ?_ _;refine fI ?_;try simp only [Exit.then]
 generalize V2.setCell ⟨wk,3,none⟩ (.slice A4 (pl+4+v.bytes.length) cap4)=W6 at *;obtain ⟨_,t0,t1,t2,_⟩:=aS M16.out.1;have hl6:(z5++v.bytes).length=pl+4+v.bytes.length:=by rw [List.length_append,HL5.out]
 have HL6:=aA hl6;rcases HKK.out with rfl|rfl
 · obtain ⟨_,_,_,_,c3⟩:=aF H6.out.st.blk;have f3:=aB H6.out.st.blk 3;rw [hl6] at c3;have hcp:=H6.out.st.few;rw [hl6] at hcp;have hbig:pl+4+v.bytes.length≤70368744177680:=by have:=HLEN.out;have:=HPL2.out;omega
   obtain ⟨i0,hi0,hzz0,hzz1,hzz2⟩:=info_parts gT;have I1:=aA hi0;have I2:=aA hzz0;have I3:=aA hzz1;have I4:=aA hzz2;have HBN:=aA (cN W6 (.cells #[.int .u8 0] 5));have HBA:=aA ((bH W6.heap.size W6).alloc bD (.cells #[.int .u8 0] 5));have hown:=H6.out.st.own;unfold kV at hown;rw [hl6] at hown;have HUA:=aA (bE HBA.out hown);clear hi0 hzz0 hzz1 hzz2 hown hl6;obtain ⟨n,hn⟩:∃ n,pl+4+v.bytes.length=n:=⟨_,rfl⟩;rw [hn] at HUA HL6 c3 hcp hbig;clear hn
   go_wp2_with (at_builtin;refine wpList_append_own_at _ rfl (.tmp 41) (.tmp 42) 22 rfl w0.heap.size 5 i0 _ 1 1 Tryd.underlying22 I1.out I2.out I3.out I4.out rfl (by decide) _ n (eI (z5++v.bytes)) rfl HUA.out _ 1 1 [.int .u8 0] rfl rfl (World.news_of_block HBN.out) (by intro u hu;rw [List.mem_singleton.1 hu];rfl) (by unfold maxLen;omega) (by omega) (by have:=H6.out.bel.size;simp;omega) ?_;intro v4 W8 hown4 hg4 hx hat4;clear hx;have hap:=pZ (news:=[0]) (A:=A4) (cap:=cap4) (n:=n) H6.out.st HBA.out rfl hg4 (show (z5++v.bytes).length+1=n+1 by rw [HL6.out]) (by simpa [eI] using hown4) hat4 (by intro z hz;rw [List.mem_singleton.1 hz];decide);clear hown4 hg4 hat4;obtain ⟨A7,cap7,rfl,h8,hs7,hx7⟩:=hap;obtain ⟨_,d0,d1,d2,d3⟩:=aF h8;have e3:=aB h8 3;have S7:=aA hs7;have X7:=aA hx7;clear h8 hs7 hx7)
   first|refine bodyPost_end (v:=.tuple #[]) (by simp [results,Tryd.results66,go_sem]) rfl ?_|refine dZ (v:=.tuple #[]) (by simp [results,Tryd.results66,go_sem]) rfl ?_
   rw [HP.out];exact ⟨rfl,A7,cap7,by rw [HRES.out];exact S7.out,HX6.out.trans X7.out⟩
 · have hk12:((12:Int)==11)=false:=by decide
   go_wp2;first|refine bodyPost_end (v:=.tuple #[]) (by simp [results,Tryd.results66,go_sem]) rfl ?_|refine dZ (v:=.tuple #[]) (by simp [results,Tryd.results66,go_sem]) rfl ?_
   rw [HP.out];exact ⟨rfl,A4,cap4,by rw [HRES.out];simpa using H6.out.st,HX6.out⟩
theorem aA4 (h:ECtx b w0 W wk A cap sv ev root zs ss es)(k ref:Nat)(v:PV)(val:Value)(a:Nat)(hv:IsV w0 v val)(lists r:Nat)(hnx:qP r)(hk1:1≤k)(hk:k≤13)(hl1:1≤lists)(hl3:lists≤3)(hf:cZ (aG ss) (es.map Prod.fst) r k ref lists v=true)(ha:a+4≤zs.length)(hl:(gR (fJ (ss.map Prod.fst) r) k ref ((lists:Int)-1) v a zs).length≤70368744177664) :
  Calls Tryd.prog 66 #[.pointer (some ⟨wk,0,none⟩),.agg #[.int .u8 k,.int .i64 ref,.int .i64 lists],val,.int .i64 a] W (dR (.tuple #[]) w0.heap.size wk A sv ev root (gR (fJ (ss.map Prod.fst) r) k ref ((lists:Int)-1) v a zs) W):=by
 obtain ⟨ba,ka,bc,kc,rfl,hn,hby,hbl,hbm,hkl,hkm,_⟩:=hv.form;have hb0:=h.bel.size;obtain ⟨hb,hq1,hq2⟩:=bF W #[.int .u8 k,.int .i64 ref,.int .i64 lists] #[.int .u64 v.num,.slice ba v.bytes.length bc,.slice ka v.kids.length kc,.bool v.has] 75 38;have HB:=aA hb;have L1:=aA (Loc.new h.st bD hq1);have L2:=aA (Loc.new h.st (Nat.le_succ _) hq2);have H0:=aA (h.below hb);have HX0:=aA (Wx.of_below (wk:=wk) A hb);have HN0:=aA (fun W'=>cD k (by omega) ref lists W');have HBY:=aA hby;have HBL:=aA hbl;have HB0:=aA hb0;obtain ⟨P,hP⟩:∃ P,dR (.tuple #[]) w0.heap.size wk A sv ev root (gR (fJ (ss.map Prod.fst) r) k ref ((lists:Int)-1) v a zs) W=P:=⟨_,rfl⟩;rw [hP];have HP:=aA hP.symm;have hnum:cK k lists=false:=by unfold cK;rw [iB (by omega)];rfl
 rw [hnum] at HN0;have hl0:(0:Int)<(lists:Int):=by omega
 have HNX:=aA (fun W' A' c' (h':ECtx b w0 W' wk A' c' sv ev root zs ss es)=>hnx b w0 W' wk A' c' sv ev root zs ss es k ref lists v _ a h' hv hk1 hk hl1 hl3 hf ha hl);clear hb hq1 hq2 hP h hv hby hbl hbm hkl hkm hb0 hnum hnx hf ha hl;go_enter Tryd.func66,Tryd.ntmps66;go_upto_region 7 with (fail);generalize (W.alloc (.cells #[.int .u8 k,.int .i64 ref,.int .i64 lists] 75)).alloc (.cells #[.int .u64 v.num,.slice ba v.bytes.length bc,.slice ka v.kids.length kc,.bool v.has] 38)=W1 at *;obtain ⟨_,t0,t1,t2,_⟩:=aS L1.out.1;go_wp2_with fail;refine (HN0.out _).mono ?_;rintro e W2 ⟨rfl,hb2⟩;have H2:=aA (H0.out.below hb2);have HX2:=aA (HX0.out.trans (Wx.of_below A hb2));have M1:=aA (L1.out.bel hb2);have M2:=aA (L2.out.bel hb2);clear hb2 t0 t1 t2;obtain ⟨_,t0,t1,t2,_⟩:=aS M1.out.1
 obtain ⟨_,u0,u1,u2,u3⟩:=aF M2.out.1;go_wp2_with fail;refine (HNX.out W2 A cap H2.out).mono ?_;rintro e W3 hp;obtain ⟨A3,c3,rfl,h3,hx3⟩:=H2.out.post hp;have H3:=aA h3;have HX3:=aA (HX2.out.trans hx3);clear hp h3 hx3;go_wp2;first|refine bodyPost_end (v:=.tuple #[]) (by simp [results,Tryd.results66,go_sem]) rfl ?_|refine dZ (v:=.tuple #[]) (by simp [results,Tryd.results66,go_sem]) rfl ?_
 rw [HP.out];exact ⟨rfl,A3,c3,H3.out.st,HX3.out⟩
theorem wF (h:ECtx b w0 W wk A cap sv ev root zs ss es)(ref:Nat)(v:PV)(val:Value)(a:Nat)(hv:IsV w0 v val)(r:Nat)(hnx:sM r)(hf:cZ (aG ss) (es.map Prod.fst) r 13 ref 0 v=true)(hh:v.has=true)(ha:a+4≤zs.length)(hl:(lM (ss.map Prod.fst) (fJ (ss.map Prod.fst) r) ref v a zs).length≤70368744177664) :
  Calls Tryd.prog 66 #[.pointer (some ⟨wk,0,none⟩),.agg #[.int .u8 13,.int .i64 ref,.int .i64 0],val,.int .i64 a] W (dR (.tuple #[]) w0.heap.size wk A sv ev root (lM (ss.map Prod.fst) (fJ (ss.map Prod.fst) r) ref v a zs) W):=by
 obtain ⟨ba,ka,bc,kc,rfl,hn,hby,hbl,hbm,hkl,hkm,_⟩:=hv.form;have hb0:=h.bel.size;obtain ⟨hb,hq1,hq2⟩:=bF W #[.int .u8 13,.int .i64 ref,.int .i64 0] #[.int .u64 v.num,.slice ba v.bytes.length bc,.slice ka v.kids.length kc,.bool v.has] 75 38;have HB:=aA hb;have L1:=aA (Loc.new h.st bD hq1);have L2:=aA (Loc.new h.st (Nat.le_succ _) hq2);have H0:=aA (h.below hb);have HX0:=aA (Wx.of_below (wk:=wk) A hb);have HN0:=aA (fun W'=>cD 13 (by decide) ref 0 W');have HBY:=aA hby;have HBL:=aA hbl;have HB0:=aA hb0;obtain ⟨P,hP⟩:∃ P,dR (.tuple #[]) w0.heap.size wk A sv ev root (lM (ss.map Prod.fst) (fJ (ss.map Prod.fst) r) ref v a zs) W=P:=⟨_,rfl⟩;rw [hP];have HP:=aA hP.symm;rw [show cK 13 0=false from by decide] at HN0;have HNX:=aA (fun W' A' c' (h':ECtx b w0 W' wk A' c' sv ev root zs ss es)=>hnx b w0 W' wk A' c' sv ev root zs ss es ref v _ a h' hv hf hh ha hl)
 clear hb hq1 hq2 hP h hv hby hbl hbm hkl hkm hb0 hnx hf hh ha hl;go_enter Tryd.func66,Tryd.ntmps66;go_upto_region 7 with (fail);generalize (W.alloc (.cells #[.int .u8 13,.int .i64 ref,.int .i64 0] 75)).alloc (.cells #[.int .u64 v.num,.slice ba v.bytes.length bc,.slice ka v.kids.length kc,.bool v.has] 38)=W1 at *;obtain ⟨_,t0,t1,t2,_⟩:=aS L1.out.1;go_wp2_with fail;refine (HN0.out _).mono ?_;rintro e W2 ⟨rfl,hb2⟩;have H2:=aA (H0.out.below hb2);have HX2:=aA (HX0.out.trans (Wx.of_below A hb2));have M1:=aA (L1.out.bel hb2);have M2:=aA (L2.out.bel hb2);clear hb2 t0 t1 t2;obtain ⟨_,t0,t1,t2,_⟩:=aS M1.out.1;obtain ⟨_,u0,u1,u2,u3⟩:=aF M2.out.1;go_wp2_with fail;refine (HNX.out W2 A cap H2.out).mono ?_;rintro e W3 hp;obtain ⟨A3,c3,rfl,h3,hx3⟩:=H2.out.post hp;have H3:=aA h3
 have HX3:=aA (HX2.out.trans hx3);clear hp h3 hx3;go_wp2;first|refine bodyPost_end (v:=.tuple #[]) (by simp [results,Tryd.results66,go_sem]) rfl ?_|refine dZ (v:=.tuple #[]) (by simp [results,Tryd.results66,go_sem]) rfl ?_
 rw [HP.out];exact ⟨rfl,A3,c3,H3.out.st,HX3.out⟩
theorem yZ (r:Nat)(hL:qP r)(hT:sM r):tH r:=by
 intro b w0 W wk A cap sv ev root zs ss es k ref lists v val a h hv hk1 hk hl3 hf hh ha hl;unfold oL at hl ⊢;by_cases hn:cK k lists=true
 · rw [bG hn] at hl ⊢;obtain ⟨h1,h2⟩:(lists:Int)=0∧0<aP k:=by
    unfold cK at hn;rw [Bool.and_eq_true] at hn;exact ⟨of_decide_eq_true hn.1,of_decide_eq_true hn.2⟩
   obtain rfl:lists=0:=by omega
   have hk10:k≤10:=by
    rcases Nat.lt_or_ge 10 k with h3|h3
    · have:=jB (k:Int) (.inr (by omega));omega
    · exact h3
   have hi:gK k (0:Nat)=aP k:=by unfold gK;rw [bG hn]
   rw [hi] at ha;rw [bX] at hl;exact aCw h k ref v val a hv h2 hk10 ha hl
 · have hi:gK k lists=4:=by unfold gK;rw [if_neg hn]
   rw [hi] at ha;have ha4:a+4≤zs.length:=ha;rw [if_neg hn] at hl ⊢;by_cases hl0:(0:Int)<(lists:Int)
   · rw [bG hl0] at hl ⊢;exact aA4 h k ref v val a hv lists r hL hk1 hk (by omega) hl3 hf ha4 hl
   · rw [if_neg hl0] at hl ⊢;obtain rfl:lists=0:=by omega
     by_cases h13:k=13
     · rw [bG h13] at hl ⊢;subst h13;exact wF h ref v val a hv r hT hf (hh rfl rfl) ha4 hl
     · rw [if_neg h13] at hl ⊢;have h11:k=11∨k=12:=by
        have h3:¬k≤10:=fun h3=>hn (by unfold cK;rw [fO (show ((0:Nat):Int)=0 from rfl),fO (vY hk1 h3)];rfl);omega
       exact yT h k ref v val a hv h11 ha4 hl
theorem aAm:(Tryd.prog.info? 4).map (fun i=>(i.zero,i.size,i.bytes))=some (some (.bool false),1,1):=by kernel_rfl
theorem nG (l:List Bool):cE l=l.map Value.bool:=by
 unfold cE;induction l with
 | nil=>rfl
 | cons a l ih=>rw [List.flatMap_cons,ih];rfl
theorem aAM (n:Nat):madeCells (Value.bool false).cells (n * 1)=(cE (List.replicate n false)).toArray:=by
 rw [nG];apply Array.ext'
 apply List.ext_getElem?
 intro k;simp only [madeCells,Array.toList_map,Array.toList_range,Nat.mul_one,List.getElem?_map,List.getElem?_replicate];by_cases hk:k<n
 · rw [List.getElem?_range hk,bG hk,Option.map_some];show some (#[Value.bool false][k % 1]!)=_;rw [Nat.mod_one];rfl
 · rw [List.getElem?_eq_none (by simp;omega),if_neg hk];rfl
theorem aAI (n:Nat)(hn:n≤1000000)(W:World):(Instr.makeSlice 147 (.int .i64 (n:Int)) (.int .i64 (n:Int))).run Tryd.prog W=.ok (.slice (some ⟨W.heap.size,0,none⟩) n n) (W.alloc (.cells (cE (List.replicate n false)).toArray 4)):=by obtain ⟨i,hi,hz,hs,hb⟩:=info_parts aAm;have h:=run_make W 147 4 i (.bool false) Tryd.underlying147 hi hz .i64 .i64 n n (by omega) (Int.le_refl _) (by rw [hb];omega) (by omega);rw [hs,lN,aAM] at h;exact h
theorem aBV (l:List Bool)(j:Nat)(x:Bool):(cE l).set j (.bool x)=cE (l.set j x):=by rw [nG,nG,List.map_set]
theorem mV (l:List Bool):(cE l).length=l.length:=by rw [nG,List.length_map]
theorem aCi {W:World}{base g n:Nat}{l:List Bool}(h:W.heap[g]?=some (.cells (cE l).toArray 4 (0,0)))(hb:base≤g)(hl:l.length=n)(hn:n≤1000000):W.ownsRow base 4 1 (.slice (some ⟨g,0,none⟩) n n) l.length (cE l):=by subst hl;refine ⟨by rw [mV];omega,.inr ⟨g,l.length,_,rfl,hb,h,Nat.le_refl _,by unfold maxLen;omega,by simp [mV],?_⟩⟩;simp only [Nat.mul_one];exact List.take_of_length_le (by rw [mV];exact Nat.le_refl _)
theorem mL {W:World}{g:Nat}{l:List Bool}(h:W.heap[g]?=some (.cells (cE l).toArray 4 (0,0)))(j:Nat)(hj:j<l.length):W.cell? ⟨g,j,none⟩=some (.bool (l.getD j false)):=by rw [aU h j,nG];simp [List.getD,List.getElem?_eq_getElem hj]
theorem aCC {W:World}{g:Nat}{l:List Bool}(h:W.heap[g]?=some (.cells (cE l).toArray 4 (0,0)))(j:Nat)(x:Bool):(W.setCell ⟨g,j,none⟩ (.bool x)).heap[g]?=some (.cells (cE (l.set j x)).toArray 4 (0,0)):=by rw [aN h j (.bool x),←aBV];simp
theorem uZ {W:World}{base n:Nat}{v:Value}{l:List Int}(h:W.ownsRow base 3 1 v l.length (eO l))(j:Nat)(hj:j<l.length)(_hn:n=0):∃ g c,v=.slice (some ⟨g,0,none⟩) l.length c∧l.length≤c∧base≤g∧g<W.heap.size∧∀ k,k<l.length→W.cell? ⟨g,k,none⟩=some (.int .i64 (l.getD k 0)):=by obtain ⟨g,c,hv,hc,hb,hg,hcell⟩:=wI h (by omega);refine ⟨g,c,hv,hc,hb,hg,fun k hk=>?_⟩;rw [hcell k (by omega),gJ,List.getElem?_map,iO hk];simp [List.getD,List.getElem?_eq_getElem hk]
theorem yI {z:Int}(hz:z=8∨z=4∨z=2∨z=1)(fs:List SFld)(th:List Bool)(s:lQ)(h:s.al=4∨s.al=8):∀ k,(eA z fs th s k).al=4∨(eA z fs th s k).al=8
 | 0=>h
 | k+1=>by
  have ih:=yI hz fs th s h k;unfold eA jV;split
  · show max _ z=4∨max _ z=8;omega
  · exact ih
theorem uQ (fs:List SFld)(th:List Bool):∀ z,z≤4→(bP fs th z).al=4∨(bP fs th z).al=8
 | 0,_=>.inl rfl
 | z+1,hz=>yI (kS z (by omega)) fs th _ (uQ fs th z (by omega)) _
theorem xY {z:Int}(hz:z=8∨z=4∨z=2∨z=1)(fs:List SFld)(th:List Bool)(s:lQ)(h4:4≤s.size)(h0:∀ i,0≤s.pl.getD i 0)(hn:∀ i,th.getD i false=false→s.pl.getD i 0=0):∀ k,(∀ i,0≤(eA z fs th s k).pl.getD i 0)∧(∀ i,th.getD i false=false→(eA z fs th s k).pl.getD i 0=0)∧4≤(eA z fs th s k).size
 | 0=>⟨h0,hn,h4⟩
 | k+1=>by
  obtain ⟨i0,i1,i2⟩:=xY hz fs th s h4 h0 hn k;unfold eA jV;split
  · rename_i hb
    have hm:=sA hz (show 0≤(eA z fs th s k).size by omega);refine ⟨fun i=>?_,fun i hi=>?_,by show 4≤hY _ z+z;omega⟩
    · show 0≤((eA z fs th s k).pl.set k _).getD i 0;rcases Nat.lt_or_ge k (eA z fs th s k).pl.length with h1|h1
      · rw [fP _ _ _ _ h1];split
        · omega
        · exact i0 i
      · rw [List.set_eq_of_length_le h1];exact i0 i
    · show ((eA z fs th s k).pl.set k _).getD i 0=0;have hne:k≠i:=fun e=>by rw [e,hi] at hb;exact absurd hb.1 (by decide)
      rcases Nat.lt_or_ge k (eA z fs th s k).pl.length with h1|h1
      · rw [fP _ _ _ _ h1,if_neg hne];exact i1 i hi
      · rw [List.set_eq_of_length_le h1];exact i1 i hi
  · exact ⟨i0,i1,i2⟩
theorem vJ (fs:List SFld)(th:List Bool):∀ z,z≤4→(∀ i,0≤(bP fs th z).pl.getD i 0)∧(∀ i,th.getD i false=false→(bP fs th z).pl.getD i 0=0)∧4≤(bP fs th z).size
 | 0,_=>by
  have h:∀ i,(List.replicate fs.length (0:Int)).getD i 0=0:=fun i=>by rw [List.getD,List.getElem?_replicate];split<;>rfl
  exact ⟨fun i=>by show 0≤(List.replicate fs.length (0:Int)).getD i 0;rw [h];exact Int.le_refl _,fun i _=>h i,by show (4:Int)≤4;decide⟩
 | z+1,hz=>by obtain ⟨h0,h1,h2⟩:=vJ fs th z (by omega);exact xY (kS z (by omega)) fs th _ h2 h0 h1 _
theorem aB2 (fs:List SFld)(th:List Bool)(j:Nat)(hj:j<fs.length):0≤(bP fs th 4).pl.getD j 0∧(bP fs th 4).pl.getD j 0≤(bP fs th 4).size∧(th.getD j false=true→4≤(bP fs th 4).pl.getD j 0∧(bP fs th 4).pl.getD j 0+gW (fs.getD j aDn)≤(bP fs th 4).size):=by
 have h1:=vJ fs th 4 bD;have h2:=aCa fs th;refine ⟨h1.1 j,?_,fun hb=>?_⟩
 · cases hb:th.getD j false with
   | false=>rw [h1.2.1 j hb];omega
   | true =>
    have h3:=h2.1.inn j ⟨hj,hb⟩;have h4:=sG (aDr fs j);have h5:xA fs j=gW (aDr fs j):=rfl;omega
 · have h3:=h2.1.inn j ⟨hj,hb⟩;exact ⟨h3.2.1,h3.2.2⟩
theorem zJ (f:SFld):gK f.kind (f.lists:Nat)=gW f:=by
 unfold gK gW cK dE;have h:decide (((f.lists:Nat):Int)=0)=decide (f.lists=0):=by
  by_cases h0:f.lists=0
  · rw [fO h0,fO (by omega)]
  · rw [iB h0,iB (by omega)]
 rw [h]
theorem aBb (fs:List SFld)(vs:List PV):(eJ fs vs).length=fs.length:=by simp [eJ]
theorem aB3 {fs:List SFld}{vs:List PV}{j:Nat}(hj:j<fs.length)(hk:j<vs.length):(eJ fs vs).getD j false = !nU fs[j].dflt vs[j]:=by unfold eJ;rw [List.getD,List.getElem?_map,List.getElem?_range hj];simp only [Option.map_some,Option.getD_some];rw [List.getD,iO hj,List.getD,iO hk];rfl
theorem zG {th:List Bool}{j:Nat}:nR th (j+1)=if th.getD j false=true then j+1 else nR th j:=rfl
end Go.Proofs.YtpbaaiilfkacnaaDoor
