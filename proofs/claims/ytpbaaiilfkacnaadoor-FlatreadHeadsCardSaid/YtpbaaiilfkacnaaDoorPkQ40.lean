/-
  The document's writer of tables: a list at its place. Conditions: those that each theorem names.
-/
import Derived.Test.YtpbaaiilfkacnaaDoorPkQ33
namespace Go.Proofs.YtpbaaiilfkacnaaDoor
open Go.ChangeShapes Go.WideShapes Go.ChangeAt Go.RowKit Go.Shelf
set_option maxRecDepth 100000
set_option maxHeartbeats 16000000
section
variable {P:Program} (w:World)
theorem kF {o:Oper}{a:Act}{K:Act→World→Prop}{Q:Exit→Act→World→Prop}(s x:Operand)(t u:TypeId)
  (ho:o.op=.call { callee:=.builtin .append,args:=#[s,x],argTypes:=#[t,u] }) (v y v':Value) (w':World) (hs:a.eval s=v) (hx:a.eval x=y) (hr:(Builtin.append_ #[t,u] o.type #[v,y]).run P w=.ok v' w') (h:K (a.put o.dst v') w'):o.wp P a w K Q:=by
 unfold Oper.wp execOp;simp only [ho,resolve,invoke,builtin,Sem.run_bind,Sem.run_pure,Result.andThen_ok,List.map_toArray,List.map_cons,List.map_nil,hs,hx,hr];exact h
end
def aCD (b:Nat)(w0 W:World)(wk:Nat)(A:Option Addr)(sv ev:Value)(root:Int)(z0:List Int)(ss:List (bK × Value))(es:List (aX × Value))(T V:Nat)(tc vc:Array Value)(K:Nat)(wr:World):Prop:=∃ (j:Nat) (A':Option Addr) (c':Nat),j≤K∧ECtx b w0 wr wk A' c' sv ev root (z0++aR j) ss es∧Loc wr wk A' T (.cells tc 75 (0,0))∧Loc wr wk A' V (.cells vc 38 (0,0))∧Wx wk A A' W wr
def aCJ (b:Nat)(w0 W:World)(wk:Nat)(A:Option Addr)(sv ev:Value)(root:Int)(f:Nat→List Int→List Int)(y0:List Int)(ss:List (bK × Value))(es:List (aX × Value))(T V:Nat)(tc vc:Array Value)(n:Nat)(x:Value)(wr:World):Prop:=∃ (j:Nat) (A':Option Addr) (c':Nat),j≤n∧x=.int .i64 j∧ECtx b w0 wr wk A' c' sv ev root (eK f y0 j) ss es∧Loc wr wk A' T (.cells tc 75 (0,0))∧Loc wr wk A' V (.cells vc 38 (0,0))∧Wx wk A A' W wr
variable {b:Nat} {w0 W:World} {wk:Nat} {A:Option Addr} {cap:Nat} {sv ev:Value} {root:Int} {zs:List Int} {ss:List (bK × Value)} {es:List (aX × Value)}
theorem aAT (r:Nat)(hN:∀ q,r=q+1→tH q)(h:ECtx b w0 W wk A cap sv ev root zs ss es)(k ref lm:Nat)(v:PV)(val:Value)(a:Nat)(hv:IsV w0 v val)(hk1:1≤k)(hk:k≤13)(hl3:lm+1≤3)(hf:cZ (aG ss) (es.map Prod.fst) r k ref ((lm+1:Nat):Int) v=true)(ha:a+4≤zs.length)(hl:(gR (fJ (ss.map Prod.fst) r) k ref (((lm+1:Nat):Int)-1) v a zs).length≤70368744177664)(hnum:cK k lm=true)(hs8:¬bN k lm=8) :
  Calls Tryd.prog 88 #[.pointer (some ⟨wk,0,none⟩),.agg #[.int .u8 k,.int .i64 ref,.int .i64 ((lm+1:Nat):Int)],val,.int .i64 a] W (dR (.tuple #[]) w0.heap.size wk A sv ev root (gR (fJ (ss.map Prod.fst) r) k ref (((lm+1:Nat):Int)-1) v a zs) W):=by
 have els:=pO (show (0:Int)<((lm+1:Nat):Int) by omega) hf;have hlm:(((lm+1:Nat):Int)-1)=(lm:Int):=by omega
 rw [hlm] at els hl ⊢;obtain ⟨ba,ka,bc,kc,rfl,hn,hby,hbl,hbm,hkl,hkm,hkids⟩:=hv.form;have hb0:=h.bel.size
 -- the plain side
 obtain ⟨st,hst,hst8⟩:∃ st:Nat,bN k lm=st∧1≤st∧st≤8:=by have h5:=iF k (lm:Int);exact ⟨(bN k lm).toNat,by omega,by omega,by omega⟩
 obtain ⟨z1,hz1⟩:∃ z1:List Int,cQ 4 zs=z1:=⟨_,rfl⟩;have hKK:(if st=8∧((cQ 4 zs).length+4) % 8≠0 then cQ 4 zs++aR 4 else cQ 4 zs)=z1:=by rw [if_neg (by omega)];exact hz1
 obtain ⟨f,hfd⟩:∃ f:Nat→List Int→List Int,(fun i=>fJ (ss.map Prod.fst) r k ref lm (v.kids.getD i (dY 0)) (z1.length+4+i * st))=f:=⟨_,rfl⟩;obtain ⟨y0,hy0⟩:∃ y0:List Int,kL a 4 ((z1.length:Int)-a) (hI 4 (v.kids.length:Nat) z1)++aR (st * v.kids.length)=y0:=⟨_,rfl⟩;have hres:gR (fJ (ss.map Prod.fst) r) k ref lm v a zs=eK f y0 v.kids.length:=by unfold gR;rw [hst,lN];rw [←hfd,←hy0,←hKK]
 have hfg:∀ i ys,ys.length≤(f i ys).length:=fun i ys=>by rw [←hfd];exact hH _ _ _ _ _ _ _ _
 have hup:=fun j hj=>lZ hfg y0 j v.kids.length hj;have hylen:y0.length=z1.length+4+st * v.kids.length:=by rw [←hy0,List.length_append,bX,bC,aR,List.length_replicate]
 rw [hres] at hl ⊢;have hfin:=hup 0 (Nat.zero_le _);change y0.length≤_ at hfin;have hpl:=iK 4 zs;have hzl:z1.length=(cQ 4 zs).length:=by rw [hz1]
 obtain ⟨n,hnk⟩:∃ n,v.kids.length=n:=⟨_,rfl⟩;rw [hnk] at hres hl hup hylen hfin hkl hkm;have hmul:n≤st * n:=by have:=Nat.mul_le_mul_right n hst8.1;omega
 -- the kids
 have HKID:Hid (∀ j (hj:j<n),∃ (kb ko:Nat) (u0 u1 u2 u3:Value) (q:Nat),r=q+1∧ka=some ⟨kb,ko,none⟩∧w0.cell? ⟨kb,ko+j * 4,none⟩=some u0∧w0.cell? ⟨kb,ko+j * 4+1,none⟩=some u1∧w0.cell? ⟨kb,ko+j * 4+2,none⟩=some u2∧w0.cell? ⟨kb,ko+j * 4+3,none⟩=some u3 ∧
   ∀ W' A' c' ys,ECtx b w0 W' wk A' c' sv ev root ys ss es→z1.length+4+j * st+st≤ys.length→(f j ys).length≤70368744177664→Calls Tryd.prog 66 #[.pointer (some ⟨wk,0,none⟩),.agg #[.int .u8 k,.int .i64 ref,.int .i64 lm],.agg #[u0,u1,u2,u3],.int .i64 ((z1.length+4+j * st:Nat):Int)] W' (dR (.tuple #[]) w0.heap.size wk A' sv ev root (f j ys) W')):=aA (fun j hj=>by
  obtain ⟨kb,ko,u0,u1,u2,u3,e1,c0,c1,c2,c3,hiv⟩:=hkids j (by omega);have hjk:j<v.kids.length:=by omega
  rcases els with e|⟨q,hq,hels⟩
  · rw [e] at hjk;exact absurd hjk (Nat.not_lt_zero _)
  · refine ⟨kb,ko,u0,u1,u2,u3,q,hq,e1,c0,c1,c2,c3,fun W' A' c' ys hctx hpl hlen=>?_⟩;obtain ⟨hfk,hhk⟩:=hels v.kids[j] (jK hjk);have e3:f j ys=oL (ss.map Prod.fst) (fJ (ss.map Prod.fst) q) k ref lm v.kids[j] (z1.length+4+j * st) ys:=by
     rw [←hfd];show fJ (ss.map Prod.fst) r k ref lm (v.kids.getD j (dY 0)) _ ys=_;rw [hq,List.getD,iO hjk,Option.getD_some];rfl
    rw [e3] at hlen ⊢;exact hN q hq b w0 W' wk A' c' sv ev root ys ss es k ref lm v.kids[j] _ _ hctx hiv hk1 hk (by omega) hfk (fun h13 h0=>hhk h13 (by omega)) (by have h6:gK k lm=bN k lm:=rfl;rw [h6,hst,lN];exact hpl) hlen)
 obtain ⟨lI,hlI⟩:∃ lI:Int,((lm+1:Nat):Int)=lI:=⟨_,rfl⟩;have hlw:lI-1=(lm:Int):=by omega
 rw [hlI];obtain ⟨hb,hq1,hq2⟩:=bF W #[.int .u8 k,.int .i64 ref,.int .i64 lm] #[.int .u64 v.num,.slice ba v.bytes.length bc,.slice ka n kc,.bool v.has] 75 38;have L1:=aA (Loc.new h.st bD hq1);have L2:=aA (Loc.new (p:=W.heap.size+1) h.st (Nat.le_succ _) hq2);have H0:=aA (h.below hb);have HX0:=aA (Wx.of_below (wk:=wk) A hb);have HN0:=aA (fun W'=>cD k (by omega) ref lm W');have HSZ:=aA (fun W'=>bY k W');have HB0:=aA hb0;obtain ⟨P,hP⟩:∃ P,dR (.tuple #[]) w0.heap.size wk A sv ev root (eK f y0 n) W=P:=⟨_,rfl⟩;rw [hnk,hP];have HP:=aA hP.symm;have HNK:=aA hnk;have HKC:=aA hkl;have HGR:=aA (fun j=>gU hfg y0 j);have HKC:=aA hkl;have HGR:=aA (fun j=>gU hfg y0 j);have HY0:=aA hy0;have HYL:=aA hylen;have HFIN:=aA (cJ hfin hl);have HUP:=aA hup;have HPL:=aA hpl;have HZL:=aA hzl;have HZ1:=aA hz1;have HA:=aA ha;have HST:=aA hst8;have HMUL:=aA hmul
 have hlw2:=cU (lm:Int);have hw8:=cU (k:Int);have hst':(if cK k lm=true then aP k else 4)=(st:Int):=hst;have hk255:k≤255:=by omega
 have hs8':((st:Int)==8)=false:=by (have h5:=hst;simp;omega)
 clear hs8 hb hq1 hq2 hP h hv hby hbl hbm hkl hkm hb0 hn hkids els hf hN hfd hy0 hres hfg hup hylen hfin hpl hzl hz1 hKK ha hl hst hst8 hmul hlm hnk hlI;go_enter Tryd.func88,Tryd.ntmps88;go_upto_region 1 with (fail);go_upto_region 3 with (fail);generalize (W.alloc (.cells #[.int .u8 k,.int .i64 ref,.int .i64 lm] 75)).alloc (.cells #[.int .u64 v.num,.slice ba v.bytes.length bc,.slice ka n kc,.bool v.has] 38)=W1 at *;obtain ⟨_,t0,t1,t2,_⟩:=aS L1.out.1;go_wp2_with fail;refine (HN0.out _).mono ?_;rintro e W2 ⟨rfl,hb2⟩;rw [hnum];have H2:=aA (H0.out.below hb2);have HX2:=aA (HX0.out.trans (Wx.of_below A hb2));have M1:=aA (L1.out.bel hb2);have M2:=aA (L2.out.bel hb2);clear hb2 t0 t1 t2 L1 L2 H0 HX0;obtain ⟨_,t0,t1,t2,_⟩:=aS M1.out.1;rw [hnum,bG rfl] at hst';rw [hst'] at HSZ;clear hst'
 go_wp2_with fail;refine (HSZ.out _).mono ?_;rintro e _ ⟨rfl,rfl⟩;clear t0 t1 t2;go_wp2_with fail;refine (jD W2 H2.out.st 4 (.inr (.inl rfl)) (by have:=HFIN.out;have:=HPL.out;have:=HZL.out;have:=HYL.out;omega) H2.out.bel.size).mono ?_;rintro e W3 hp;obtain ⟨A3,c3,rfl,h3,hx3⟩:=H2.out.post hp;have H3:=aA h3;have HX3:=aA (HX2.out.trans hx3);have M13:=aA (M1.out.wx hx3);have M23:=aA (M2.out.wx hx3);clear hp h3 hx3 M1 M2 H2 HX2;have HST1:Hid (aCD b w0 W wk A sv ev root z1 ss es W.heap.size (W.heap.size+1) #[.int .u8 k,.int .i64 ref,.int .i64 lm] #[.int .u64 v.num,.slice ba v.bytes.length bc,.slice ka n kc,.bool v.has] 0 W3):=aA ⟨0,A3,c3,Nat.le_refl _,by rw [show z1++aR 0=z1 from List.append_nil _,←HZ1.out];exact H3.out,M13.out,M23.out,HX3.out⟩;clear H3 HX3 M13 M23;go_wp2_with fail
 go_loopw [] (fun wr=>aCD b w0 W wk A sv ev root z1 ss es W.heap.size (W.heap.size+1) #[.int .u8 k,.int .i64 ref,.int .i64 lm] #[.int .u64 v.num,.slice ba v.bytes.length bc,.slice ka n kc,.bool v.has] 0 wr) (fun _=>0)
 case atStart=>exact HST1.out
 case round =>
  obtain ⟨j,A5,c5,hj,h5,m15,m25,hx5⟩:=hrel;obtain rfl:j=0:=by omega
  rw [show z1++aR 0=z1 from List.append_nil _] at h5;have H5:=aA h5;have HX5:=aA hx5;have M15:=aA m15;have M25:=aA m25;clear h5 hx5 m15 m25;obtain ⟨_,v0,v1,v2,v3⟩:=aF M25.out.1;have hwn:=IntWalk.u64_in (n:Int) ⟨by omega,by have:=HFIN.out;have:=HYL.out;have:=HMUL.out;omega⟩;go_wp2_with fail;refine (jI wr H5.out.st 4 (n:Int) (by decide) (by have:=HFIN.out;have:=HYL.out;omega) H5.out.bel.size).mono ?_;rintro e W6 hp;obtain ⟨A6,c6,rfl,h6,hx6⟩:=H5.out.post hp;have H6:=aA h6;have HX6:=aA (HX5.out.trans hx6);have M16:=aA (M15.out.wx hx6);have M26:=aA (M25.out.wx hx6);clear hp h6 hx6 M15 M25 H5 HX5 v0 v1 v2 v3;obtain ⟨pl,hpl⟩:∃ pl,z1.length=pl:=⟨_,rfl⟩;rw [hpl] at HYL HY0 HKID HZL ⊢;have HP1:=aA hpl;have hws:=IntWalk.i64_in ((pl:Int)-a) ⟨by have:=HA.out;have:=HPL.out;have:=HZL.out;omega,by have:=HFIN.out;have:=HYL.out;omega⟩
  have hwu:=IntWalk.u64_in ((pl:Int)-a) ⟨by have:=HA.out;have:=HPL.out;have:=HZL.out;omega,by have:=HFIN.out;have:=HYL.out;omega⟩;clear hpl;go_wp2_with fail;refine (mA W6 H6.out.st a 4 ((pl:Int)-a) (by decide) (by rw [bC,HP1.out];have:=HA.out;have:=HPL.out;have:=HZL.out;omega) (by rw [bC,HP1.out];have:=HFIN.out;have:=HYL.out;omega) H6.out.bel.size).mono ?_;rintro e W7 hp;obtain ⟨A7,c7,rfl,h7,hx7⟩:=H6.out.post hp;have H7:=aA h7;have HX7:=aA (HX6.out.trans hx7);have M17:=aA (M16.out.wx hx7);have M27:=aA (M26.out.wx hx7);clear hp h7 hx7 M16 M26 H6 HX6 hws hwu;have hl7:(kL a 4 ((pl:Int)-a) (hI 4 (n:Int) z1)).length=pl+4:=by rw [bX,bC,HP1.out]
  have HL7:=aA hl7;obtain ⟨z7,hz7⟩:∃ z7,kL a 4 ((pl:Int)-a) (hI 4 (n:Int) z1)=z7:=⟨_,rfl⟩;rw [HNK.out] at HY0;rw [hz7] at H7 HL7 HY0 hl7;clear hz7;obtain ⟨mn,hmn⟩:∃ mn:Nat,st * n=mn:=⟨_,rfl⟩;have hprod:(st:Int) * (n:Int)=(mn:Int):=by rw [←hmn];simp
  rw [hmn] at HY0 HYL HMUL;have HMN:=aA hmn;clear hmn;have hmb:mn≤70368744177664:=by have:=HFIN.out;have:=HYL.out;omega
  have hnb:n≤70368744177664:=by have:=HMUL.out;omega
  have hwm:=cU (mn:Int);obtain ⟨_,_,_,_,c73⟩:=aF H7.out.st.blk;obtain ⟨_,v0,v1,v2,v3⟩:=aF M27.out.1;rw [hl7] at c73;clear hl7;go_upto_region 10 with (fail);have s0:=c73;have s1:=v2;clear c73 v0 v1 v2 v3;refine gL ?_;refine eG 13 (fun _=>True) (fun w'=>w'.cell? ⟨wk,3,none⟩=some (.slice A7 (pl+4) c7)∧w'.cell? ⟨W.heap.size+1,2,none⟩=some (.slice ka n kc)) (by kernel_rfl) ?_;have HB0':=aA ((bH W7.heap.size W7).drew);have HD7:=aA (H7.out.below HB0'.out);have HXD:=aA (HX7.out.trans (Wx.of_below A7 HB0'.out));have M17d:=aA (M17.out.bel HB0'.out);have M27d:=aA (M27.out.bel HB0'.out);have hV:=cJ (aC HB0'.out s0) (aC HB0'.out s1);generalize W7.drew=V0 at *;have hU:True:=trivial;refine tt 0 (.pointer (some ⟨wk,0,none⟩)) hU hV ?_ ?_
  · intro w' hSw;obtain ⟨_,⟨t0,t1⟩⟩:=hSw;go_simp
  simp only [td];refine tt 1 (.pointer (some ⟨wk,0,none⟩)) hU hV ?_ ?_
  · intro w' hSw;obtain ⟨_,⟨t0,t1⟩⟩:=hSw;go_simp
  simp only [td];refine tt 2 (.pointer (some ⟨wk,0,none⟩)) hU hV ?_ ?_
  · intro w' hSw;obtain ⟨_,⟨t0,t1⟩⟩:=hSw;go_simp
  simp only [td];refine tt 3 (.pointer (some ⟨wk,3,none⟩)) hU hV ?_ ?_
  · intro w' hSw;obtain ⟨_,⟨t0,t1⟩⟩:=hSw;go_simp
  simp only [td];refine tt 4 (.slice A7 (pl+4) c7) hU hV ?_ ?_
  · intro w' hSw;obtain ⟨_,⟨t0,t1⟩⟩:=hSw;go_simp
  simp only [td];refine tt 5 (.int .i64 st) hU hV ?_ ?_
  · intro w' hSw;obtain ⟨_,⟨t0,t1⟩⟩:=hSw;go_simp
  simp only [td];refine tt 6 (.pointer (some ⟨W.heap.size+1,2,none⟩)) hU hV ?_ ?_
  · intro w' hSw;obtain ⟨_,⟨t0,t1⟩⟩:=hSw;go_simp
  simp only [td];refine tt 7 (.slice ka n kc) hU hV ?_ ?_
  · intro w' hSw;obtain ⟨_,⟨t0,t1⟩⟩:=hSw;go_simp
  simp only [td];refine tt 8 (.int .i64 n) hU hV ?_ ?_
  · intro w' hSw;obtain ⟨_,⟨t0,t1⟩⟩:=hSw;go_simp
  simp only [td];refine tt 9 (.int .i64 mn) hU hV ?_ ?_
  · intro w' hSw;obtain ⟨_,⟨t0,t1⟩⟩:=hSw;go_simp
  simp only [td];obtain ⟨i0,hi0,hzz0,hzz1,hzz2⟩:=info_parts gT;obtain ⟨A8,c8,V2,hrun,hown4,hg4,hat4⟩:=iX (P:=Tryd.prog) (w:=V0) w0.heap.size 22 3 22 5 i0 Tryd.underlying22 Tryd.underlying3 hi0 hzz0 hzz1 hzz2 A7 c7 z7 HD7.out.st.own mn (by rw [HL7.out];have:=HFIN.out;have:=HYL.out;omega) HD7.out.bel.size;rw [HL7.out] at hrun;have hap:=tG (news:=aR mn) HD7.out.st (bH _ _) hg4 (v4:=.slice A8 (pl+4+mn) c8) (by rw [HL7.out,show (aR mn).length=mn from by simp [aR]];have h5:=hown4;unfold kV at h5;rw [List.length_append,HL7.out,show (aR mn).length=mn from by simp [aR]] at h5;exact h5) (by rw [dI];exact hat4) (fun z hz=>by rw [lV hz];decide);obtain ⟨A8',c8',he8,h8,hs4,hx4⟩:=hap;rw [HL7.out,show (aR mn).length=mn from by simp [aR]] at he8;injection he8 with he81 _ he82;subst he81 he82;rw [HL7.out] at h8;rw [HY0.out] at hs4
  have H8:=aA (HD7.out.step hs4 hx4);have HX8:=aA (HXD.out.trans hx4);have M18:=aA (M17d.out.wx hx4);have M28:=aA (M27d.out.wx hx4);have hV2:=cJ ((aF h8).2.2.2.2) (show V2.cell? ⟨W.heap.size+1,2,none⟩=some (.slice ka n kc) from by have h1:=(hg4.block (W.heap.size+1) (iI M27d.out.1) M27d.out.2.2).trans M27d.out.1;exact (aF h1).2.2.2.1);have m3f:=aB h8 3;clear hown4 hg4 hat4 h8 hs4 hx4 hi0 hzz0 hzz1 hzz2 i0;refine cA (i:=10) (by kernel_rfl) rfl (fun K hK=>?_);rw [bG (by kernel_rfl)];refine kF _ (.tmp 61) (.tmp 66) 22 3 rfl _ _ _ _ rfl rfl hrun ?_;refine hK.out _ _ trivial hV2 ?_;clear hK K hrun;have hV:=hV2;clear hV2;refine cA (i:=11) (by kernel_rfl) rfl (fun K hK=>?_);rw [bG (by kernel_rfl)];go_simp;refine hK.out _ _ trivial hV ?_;clear hK K;refine tt 12 (.pointer (some ⟨wk,3,none⟩)) hU hV ?_ ?_
  · intro w' hSw;obtain ⟨_,⟨t0,t1⟩⟩:=hSw;go_simp
  simp only [td];have m3:=hV.1;refine eW (by kernel_rfl) rfl (fun K hK=>?_);rw [bG (by kernel_rfl)];go_simp;refine hK.out _ _ trivial ?_;clear hK K hV m3 m3f;refine eX (by kernel_rfl) ?_ _;refine fI ?_;try simp only [Exit.then]
  generalize V2.setCell ⟨wk,3,none⟩ (.slice A8 (pl+4+mn) c8)=W8 at *;clear hprod hwm;have HST2:Hid (aCJ b w0 W wk A sv ev root f y0 ss es W.heap.size (W.heap.size+1) #[.int .u8 k,.int .i64 ref,.int .i64 lm] #[.int .u64 v.num,.slice ba v.bytes.length bc,.slice ka n kc,.bool v.has] n (.int .i64 ((0:Nat):Int)) W8):=aA ⟨0,A8,c8,Nat.zero_le _,rfl,H8.out,M18.out,M28.out,HX8.out⟩;clear H8 M18 M28 HX8 M17 M27 H7 HX7;go_wp2_with fail;go_loopw [10] (fun x wr=>aCJ b w0 W wk A sv ev root f y0 ss es W.heap.size (W.heap.size+1) #[.int .u8 k,.int .i64 ref,.int .i64 lm] #[.int .u64 v.num,.slice ba v.bytes.length bc,.slice ka n kc,.bool v.has] n x wr) (fun x _=>n-(intOf x).toNat)
  case atStart=>exact HST2.out
  case round =>
   obtain ⟨j,A9,c9,hj,rfl,h9,m19,m29,hx9⟩:=hrel;have H9:=aA h9;have M19:=aA m19;have M29:=aA m29;have HX9:=aA hx9;clear h9 m19 m29 hx9;obtain ⟨_,v0,v1,v2,v3⟩:=aF M29.out.1;by_cases hjn:j<n
   · have hji:(j:Int)<(n:Int):=by omega
     obtain ⟨kb,ko,u0,u1,u2,u3,q,hq,hka,k0,k1,k2,k3,hcall⟩:=HKID.out j hjn;have HCALL:=aA hcall;have d0:=aC H9.out.bel k0;have d1:=aC H9.out.bel k1;have d2:=aC H9.out.bel k2;have d3:=aC H9.out.bel k3;have D0:=aA (cJ k0 (cJ k1 (cJ k2 k3)));have hkc:n≤kc:=HKC.out;obtain ⟨mj,hmj⟩:∃ mj:Nat,j * st=mj:=⟨_,rfl⟩;have hjp:(j:Int) * (st:Int)=(mj:Int):=by rw [←hmj];simp
     have hjm:mj+st≤mn:=by have h5:=HMN.out;have h6:(j+1) * st≤n * st:=Nat.mul_le_mul_right _ hjn;rw [Nat.mul_comm n] at h6;rw [Nat.add_mul] at h6;omega
     rw [hmj] at HCALL;have hwj:=cU (mj:Int);have hwp:=IntWalk.i64_in ((pl:Int)+4) ⟨by omega,by have:=HFIN.out;have:=HYL.out;omega⟩;have hwq:=IntWalk.i64_in ((pl:Int)+4+(mj:Int)) ⟨by omega,by have:=HFIN.out;have:=HYL.out;omega⟩;have HPJ:=aA hjm;have HJN:=aA hjn;have HYJ:Hid (pl+4+mn≤(eK f y0 j).length):=aA (by have h5:=HYL.out;have h6:=HGR.out j;omega)
     obtain ⟨_,t0,t1,t2,_⟩:=aS M19.out.1;clear k0 k1 k2 k3 hcall hmj hjm;subst hka;go_upto_region 14 with (fail);have s0:=t0;have s1:=t1;have s2:=t2;have s3:=v2;have s4:=d0;have s5:=d1;have s6:=d2;have s7:=d3;clear t0 t1 t2 v0 v1 v2 v3 d0 d1 d2 d3;refine gL ?_;refine aFY s0 s1 s2 s3 s4 s5 s6 s7 ?_;intro hS;refine aK 0 (.pointer (some ⟨wk,0,none⟩)) ?_;simp only [td];refine aK 1 (.agg #[.int .u8 k,.int .i64 ref,.int .i64 lm]) ?_;simp only [td];refine aK 2 (.pointer (some ⟨W.heap.size+1,2,none⟩)) ?_;simp only [td];refine aK 3 (.slice (some ⟨kb,ko,none⟩) n kc) ?_;simp only [td];refine aK 4 (.int .i64 j) ?_;simp only [td];refine aK 5 (.pointer (some ⟨kb,ko+j * 4,none⟩)) ?_;simp only [td];refine aK 6 (.agg #[u0,u1,u2,u3]) ?_;simp only [td];refine aK 7 (.int .i64 pl) ?_;simp only [td];refine aK 8 (.int .i64 ((pl:Int)+4)) ?_;simp only [td];refine aK 9 (.int .i64 j) ?_;simp only [td]
     refine aK 10 (.int .i64 st) ?_;simp only [td];refine aK 11 (.int .i64 mj) ?_;simp only [td];refine aK 12 (.int .i64 ((pl:Int)+4+(mj:Int))) ?_;simp only [td];refine bS 13 fun K hK=>?_;go_simp;have HCA:=(HCALL.out wr.drew A9 c9 (eK f y0 j) (H9.out.below (bH _ _).drew) (by have:=HYJ.out;have:=HPJ.out;omega) (eM (HUP.out (j+1) HJN.out) HFIN.out.2));rw [show ((pl+4+mj:Nat):Int)=(pl:Int)+4+(mj:Int) from by omega] at HCA;refine HCA.mono ?_;rintro e W9 hp;obtain ⟨A10,c10,rfl,h10,hx10⟩:=(H9.out.below (bH _ _).drew).post hp;have hxx:=(Wx.of_below (wk:=wk) A9 (bH wr.heap.size wr).drew).trans hx10;have H10:=aA h10;have HX10:=aA (HX9.out.trans hxx);have M110:=aA (M19.out.wx hxx);have M210:=aA (M29.out.wx hxx);have N1:=aS M110.out.1
     refine hK.out _ _ ⟨N1.2.1,N1.2.2.1,N1.2.2.2.1,(aF M210.out.1).2.2.2.1,aC h10.bel D0.out.1,aC h10.bel D0.out.2.1,aC h10.bel D0.out.2.2.1,aC h10.bel D0.out.2.2.2⟩ (fun hS=>?_);clear N1 hxx hp h10 hx10 hS s0 s1 s2 s3 s4 s5 s6 s7;refine gA (by kernel_rfl) ?_ _;refine fI ?_;try simp only [Exit.then]
     go_wp2;go_roundw
     case rel=>exact ⟨j+1,A10,c10,HJN.out,by go_num,H10.out,M110.out,M210.out,HX10.out⟩
     case measure=>simp [intOf];omega
   · obtain rfl:j=n:=by omega
     have hji:¬(j:Int)<(j:Int):=by omega
     go_wp2;first|refine bodyPost_end (v:=.tuple #[]) (by simp [results,Tryd.results88,go_sem]) rfl ?_|refine dZ (v:=.tuple #[]) (by simp [results,Tryd.results88,go_sem]) rfl ?_
     rw [HP.out];exact ⟨rfl,A9,c9,H9.out.st,HX9.out⟩
theorem aAG (r:Nat)(hN:∀ q,r=q+1→tH q)(h:ECtx b w0 W wk A cap sv ev root zs ss es)(k ref lm:Nat)(v:PV)(val:Value)(a:Nat)(hv:IsV w0 v val)(hk1:1≤k)(hk:k≤13)(hl3:lm+1≤3)(hf:cZ (aG ss) (es.map Prod.fst) r k ref ((lm+1:Nat):Int) v=true)(ha:a+4≤zs.length)(hl:(gR (fJ (ss.map Prod.fst) r) k ref (((lm+1:Nat):Int)-1) v a zs).length≤70368744177664)(hnum:cK k lm=false)(hs4:bN k lm=4) :
  Calls Tryd.prog 88 #[.pointer (some ⟨wk,0,none⟩),.agg #[.int .u8 k,.int .i64 ref,.int .i64 ((lm+1:Nat):Int)],val,.int .i64 a] W (dR (.tuple #[]) w0.heap.size wk A sv ev root (gR (fJ (ss.map Prod.fst) r) k ref (((lm+1:Nat):Int)-1) v a zs) W):=by
 have els:=pO (show (0:Int)<((lm+1:Nat):Int) by omega) hf;have hlm:(((lm+1:Nat):Int)-1)=(lm:Int):=by omega
 rw [hlm] at els hl ⊢;obtain ⟨ba,ka,bc,kc,rfl,hn,hby,hbl,hbm,hkl,hkm,hkids⟩:=hv.form;have hb0:=h.bel.size
 -- the plain side
 have hst:bN k lm=((4:Nat):Int):=hs4;have hst8:1≤4∧4≤8:=by decide
 obtain ⟨z1,hz1⟩:∃ z1:List Int,cQ 4 zs=z1:=⟨_,rfl⟩;have hKK:(if 4=8∧((cQ 4 zs).length+4) % 8≠0 then cQ 4 zs++aR 4 else cQ 4 zs)=z1:=by rw [if_neg (by omega)];exact hz1
 obtain ⟨f,hfd⟩:∃ f:Nat→List Int→List Int,(fun i=>fJ (ss.map Prod.fst) r k ref lm (v.kids.getD i (dY 0)) (z1.length+4+i * 4))=f:=⟨_,rfl⟩;obtain ⟨y0,hy0⟩:∃ y0:List Int,kL a 4 ((z1.length:Int)-a) (hI 4 (v.kids.length:Nat) z1)++aR (4 * v.kids.length)=y0:=⟨_,rfl⟩;have hres:gR (fJ (ss.map Prod.fst) r) k ref lm v a zs=eK f y0 v.kids.length:=by unfold gR;rw [hst,lN];rw [←hfd,←hy0,←hKK]
 have hfg:∀ i ys,ys.length≤(f i ys).length:=fun i ys=>by rw [←hfd];exact hH _ _ _ _ _ _ _ _
 have hup:=fun j hj=>lZ hfg y0 j v.kids.length hj;have hylen:y0.length=z1.length+4+4 * v.kids.length:=by rw [←hy0,List.length_append,bX,bC,aR,List.length_replicate]
 rw [hres] at hl ⊢;have hfin:=hup 0 (Nat.zero_le _);change y0.length≤_ at hfin;have hpl:=iK 4 zs;have hzl:z1.length=(cQ 4 zs).length:=by rw [hz1]
 obtain ⟨n,hnk⟩:∃ n,v.kids.length=n:=⟨_,rfl⟩;rw [hnk] at hres hl hup hylen hfin hkl hkm;have hmul:n≤4 * n:=by have:=Nat.mul_le_mul_right n hst8.1;omega
 -- the kids
 have HKID:Hid (∀ j (hj:j<n),∃ (kb ko:Nat) (u0 u1 u2 u3:Value) (q:Nat),r=q+1∧ka=some ⟨kb,ko,none⟩∧w0.cell? ⟨kb,ko+j * 4,none⟩=some u0∧w0.cell? ⟨kb,ko+j * 4+1,none⟩=some u1∧w0.cell? ⟨kb,ko+j * 4+2,none⟩=some u2∧w0.cell? ⟨kb,ko+j * 4+3,none⟩=some u3 ∧
   ∀ W' A' c' ys,ECtx b w0 W' wk A' c' sv ev root ys ss es→z1.length+4+j * 4+4≤ys.length→(f j ys).length≤70368744177664→Calls Tryd.prog 66 #[.pointer (some ⟨wk,0,none⟩),.agg #[.int .u8 k,.int .i64 ref,.int .i64 lm],.agg #[u0,u1,u2,u3],.int .i64 ((z1.length+4+j * 4:Nat):Int)] W' (dR (.tuple #[]) w0.heap.size wk A' sv ev root (f j ys) W')):=aA (fun j hj=>by
  obtain ⟨kb,ko,u0,u1,u2,u3,e1,c0,c1,c2,c3,hiv⟩:=hkids j (by omega);have hjk:j<v.kids.length:=by omega
  rcases els with e|⟨q,hq,hels⟩
  · rw [e] at hjk;exact absurd hjk (Nat.not_lt_zero _)
  · refine ⟨kb,ko,u0,u1,u2,u3,q,hq,e1,c0,c1,c2,c3,fun W' A' c' ys hctx hpl hlen=>?_⟩;obtain ⟨hfk,hhk⟩:=hels v.kids[j] (jK hjk);have e3:f j ys=oL (ss.map Prod.fst) (fJ (ss.map Prod.fst) q) k ref lm v.kids[j] (z1.length+4+j * 4) ys:=by
     rw [←hfd];show fJ (ss.map Prod.fst) r k ref lm (v.kids.getD j (dY 0)) _ ys=_;rw [hq,List.getD,iO hjk,Option.getD_some];rfl
    rw [e3] at hlen ⊢;exact hN q hq b w0 W' wk A' c' sv ev root ys ss es k ref lm v.kids[j] _ _ hctx hiv hk1 hk (by omega) hfk (fun h13 h0=>hhk h13 (by omega)) (by have h6:gK k lm=bN k lm:=rfl;rw [h6,hst,lN];exact hpl) hlen)
 obtain ⟨lI,hlI⟩:∃ lI:Int,((lm+1:Nat):Int)=lI:=⟨_,rfl⟩;have hlw:lI-1=(lm:Int):=by omega
 rw [hlI];obtain ⟨hb,hq1,hq2⟩:=bF W #[.int .u8 k,.int .i64 ref,.int .i64 lm] #[.int .u64 v.num,.slice ba v.bytes.length bc,.slice ka n kc,.bool v.has] 75 38;have L1:=aA (Loc.new h.st bD hq1);have L2:=aA (Loc.new (p:=W.heap.size+1) h.st (Nat.le_succ _) hq2);have H0:=aA (h.below hb);have HX0:=aA (Wx.of_below (wk:=wk) A hb);have HN0:=aA (fun W'=>cD k (by omega) ref lm W');have HSZ:=aA (fun W'=>bY k W');have HB0:=aA hb0;obtain ⟨P,hP⟩:∃ P,dR (.tuple #[]) w0.heap.size wk A sv ev root (eK f y0 n) W=P:=⟨_,rfl⟩;rw [hnk,hP];have HP:=aA hP.symm;have HNK:=aA hnk;have HKC:=aA hkl;have HGR:=aA (fun j=>gU hfg y0 j);have HKC:=aA hkl;have HGR:=aA (fun j=>gU hfg y0 j);have HY0:=aA hy0;have HYL:=aA hylen;have HFIN:=aA (cJ hfin hl);have HUP:=aA hup;have HPL:=aA hpl;have HZL:=aA hzl;have HZ1:=aA hz1;have HA:=aA ha;have HST:=aA hst8;have HMUL:=aA hmul
 have hlw2:=cU (lm:Int);have hw8:=cU (k:Int);have hst':(if cK k lm=true then aP k else 4)=(4:Int):=hst;have hk255:k≤255:=by omega
 clear hs4 hb hq1 hq2 hP h hv hby hbl hbm hkl hkm hb0 hn hkids els hf hN hfd hy0 hres hfg hup hylen hfin hpl hzl hz1 hKK ha hl hst hst8 hmul hlm hnk hlI;go_enter Tryd.func88,Tryd.ntmps88;go_upto_region 1 with (fail);go_upto_region 3 with (fail);generalize (W.alloc (.cells #[.int .u8 k,.int .i64 ref,.int .i64 lm] 75)).alloc (.cells #[.int .u64 v.num,.slice ba v.bytes.length bc,.slice ka n kc,.bool v.has] 38)=W1 at *;obtain ⟨_,t0,t1,t2,_⟩:=aS L1.out.1;go_wp2_with fail;refine (HN0.out _).mono ?_;rintro e W2 ⟨rfl,hb2⟩;rw [hnum];have H2:=aA (H0.out.below hb2);have HX2:=aA (HX0.out.trans (Wx.of_below A hb2));have M1:=aA (L1.out.bel hb2);have M2:=aA (L2.out.bel hb2);clear hb2 t0 t1 t2 L1 L2 H0 HX0;clear hst';go_wp2_with fail
 refine (jD W2 H2.out.st 4 (.inr (.inl rfl)) (by have:=HFIN.out;have:=HPL.out;have:=HZL.out;have:=HYL.out;omega) H2.out.bel.size).mono ?_;rintro e W3 hp;obtain ⟨A3,c3,rfl,h3,hx3⟩:=H2.out.post hp;have H3:=aA h3;have HX3:=aA (HX2.out.trans hx3);have M13:=aA (M1.out.wx hx3);have M23:=aA (M2.out.wx hx3);clear hp h3 hx3 M1 M2 H2 HX2;have HST1:Hid (aCD b w0 W wk A sv ev root z1 ss es W.heap.size (W.heap.size+1) #[.int .u8 k,.int .i64 ref,.int .i64 lm] #[.int .u64 v.num,.slice ba v.bytes.length bc,.slice ka n kc,.bool v.has] 0 W3):=aA ⟨0,A3,c3,Nat.le_refl _,by rw [show z1++aR 0=z1 from List.append_nil _,←HZ1.out];exact H3.out,M13.out,M23.out,HX3.out⟩;clear H3 HX3 M13 M23;go_wp2_with fail
 go_loopw [] (fun wr=>aCD b w0 W wk A sv ev root z1 ss es W.heap.size (W.heap.size+1) #[.int .u8 k,.int .i64 ref,.int .i64 lm] #[.int .u64 v.num,.slice ba v.bytes.length bc,.slice ka n kc,.bool v.has] 0 wr) (fun _=>0)
 case atStart=>exact HST1.out
 case round =>
  obtain ⟨j,A5,c5,hj,h5,m15,m25,hx5⟩:=hrel;obtain rfl:j=0:=by omega
  rw [show z1++aR 0=z1 from List.append_nil _] at h5;have H5:=aA h5;have HX5:=aA hx5;have M15:=aA m15;have M25:=aA m25;clear h5 hx5 m15 m25;obtain ⟨_,v0,v1,v2,v3⟩:=aF M25.out.1;have hwn:=IntWalk.u64_in (n:Int) ⟨by omega,by have:=HFIN.out;have:=HYL.out;have:=HMUL.out;omega⟩;go_wp2_with fail;refine (jI wr H5.out.st 4 (n:Int) (by decide) (by have:=HFIN.out;have:=HYL.out;omega) H5.out.bel.size).mono ?_;rintro e W6 hp;obtain ⟨A6,c6,rfl,h6,hx6⟩:=H5.out.post hp;have H6:=aA h6;have HX6:=aA (HX5.out.trans hx6);have M16:=aA (M15.out.wx hx6);have M26:=aA (M25.out.wx hx6);clear hp h6 hx6 M15 M25 H5 HX5 v0 v1 v2 v3;obtain ⟨pl,hpl⟩:∃ pl,z1.length=pl:=⟨_,rfl⟩;rw [hpl] at HYL HY0 HKID HZL ⊢;have HP1:=aA hpl;have hws:=IntWalk.i64_in ((pl:Int)-a) ⟨by have:=HA.out;have:=HPL.out;have:=HZL.out;omega,by have:=HFIN.out;have:=HYL.out;omega⟩
  have hwu:=IntWalk.u64_in ((pl:Int)-a) ⟨by have:=HA.out;have:=HPL.out;have:=HZL.out;omega,by have:=HFIN.out;have:=HYL.out;omega⟩;clear hpl;go_wp2_with fail;refine (mA W6 H6.out.st a 4 ((pl:Int)-a) (by decide) (by rw [bC,HP1.out];have:=HA.out;have:=HPL.out;have:=HZL.out;omega) (by rw [bC,HP1.out];have:=HFIN.out;have:=HYL.out;omega) H6.out.bel.size).mono ?_;rintro e W7 hp;obtain ⟨A7,c7,rfl,h7,hx7⟩:=H6.out.post hp;have H7:=aA h7;have HX7:=aA (HX6.out.trans hx7);have M17:=aA (M16.out.wx hx7);have M27:=aA (M26.out.wx hx7);clear hp h7 hx7 M16 M26 H6 HX6 hws hwu;have hl7:(kL a 4 ((pl:Int)-a) (hI 4 (n:Int) z1)).length=pl+4:=by rw [bX,bC,HP1.out]
  have HL7:=aA hl7;obtain ⟨z7,hz7⟩:∃ z7,kL a 4 ((pl:Int)-a) (hI 4 (n:Int) z1)=z7:=⟨_,rfl⟩;rw [HNK.out] at HY0;rw [hz7] at H7 HL7 HY0 hl7;clear hz7;obtain ⟨mn,hmn⟩:∃ mn:Nat,4 * n=mn:=⟨_,rfl⟩;have hprod:(4:Int) * (n:Int)=(mn:Int):=by rw [←hmn];simp
  rw [hmn] at HY0 HYL HMUL;have HMN:=aA hmn;clear hmn;have hmb:mn≤70368744177664:=by have:=HFIN.out;have:=HYL.out;omega
  have hnb:n≤70368744177664:=by have:=HMUL.out;omega
  have hwm:=cU (mn:Int);obtain ⟨_,_,_,_,c73⟩:=aF H7.out.st.blk;obtain ⟨_,v0,v1,v2,v3⟩:=aF M27.out.1;rw [hl7] at c73;clear hl7;go_upto_region 10 with (fail);have s0:=c73;have s1:=v2;clear c73 v0 v1 v2 v3;refine gL ?_;refine eG 13 (fun _=>True) (fun w'=>w'.cell? ⟨wk,3,none⟩=some (.slice A7 (pl+4) c7)∧w'.cell? ⟨W.heap.size+1,2,none⟩=some (.slice ka n kc)) (by kernel_rfl) ?_;have HB0':=aA ((bH W7.heap.size W7).drew);have HD7:=aA (H7.out.below HB0'.out);have HXD:=aA (HX7.out.trans (Wx.of_below A7 HB0'.out));have M17d:=aA (M17.out.bel HB0'.out);have M27d:=aA (M27.out.bel HB0'.out);have hV:=cJ (aC HB0'.out s0) (aC HB0'.out s1);generalize W7.drew=V0 at *;have hU:True:=trivial;refine tt 0 (.pointer (some ⟨wk,0,none⟩)) hU hV ?_ ?_
  · intro w' hSw;obtain ⟨_,⟨t0,t1⟩⟩:=hSw;go_simp
  simp only [td];refine tt 1 (.pointer (some ⟨wk,0,none⟩)) hU hV ?_ ?_
  · intro w' hSw;obtain ⟨_,⟨t0,t1⟩⟩:=hSw;go_simp
  simp only [td];refine tt 2 (.pointer (some ⟨wk,0,none⟩)) hU hV ?_ ?_
  · intro w' hSw;obtain ⟨_,⟨t0,t1⟩⟩:=hSw;go_simp
  simp only [td];refine tt 3 (.pointer (some ⟨wk,3,none⟩)) hU hV ?_ ?_
  · intro w' hSw;obtain ⟨_,⟨t0,t1⟩⟩:=hSw;go_simp
  simp only [td];refine tt 4 (.slice A7 (pl+4) c7) hU hV ?_ ?_
  · intro w' hSw;obtain ⟨_,⟨t0,t1⟩⟩:=hSw;go_simp
  simp only [td];refine tt 5 (.int .i64 4) hU hV ?_ ?_
  · intro w' hSw;obtain ⟨_,⟨t0,t1⟩⟩:=hSw;go_simp
  simp only [td];refine tt 6 (.pointer (some ⟨W.heap.size+1,2,none⟩)) hU hV ?_ ?_
  · intro w' hSw;obtain ⟨_,⟨t0,t1⟩⟩:=hSw;go_simp
  simp only [td];refine tt 7 (.slice ka n kc) hU hV ?_ ?_
  · intro w' hSw;obtain ⟨_,⟨t0,t1⟩⟩:=hSw;go_simp
  simp only [td];refine tt 8 (.int .i64 n) hU hV ?_ ?_
  · intro w' hSw;obtain ⟨_,⟨t0,t1⟩⟩:=hSw;go_simp
  simp only [td];refine tt 9 (.int .i64 mn) hU hV ?_ ?_
  · intro w' hSw;obtain ⟨_,⟨t0,t1⟩⟩:=hSw;go_simp
  simp only [td];obtain ⟨i0,hi0,hzz0,hzz1,hzz2⟩:=info_parts gT;obtain ⟨A8,c8,V2,hrun,hown4,hg4,hat4⟩:=iX (P:=Tryd.prog) (w:=V0) w0.heap.size 22 3 22 5 i0 Tryd.underlying22 Tryd.underlying3 hi0 hzz0 hzz1 hzz2 A7 c7 z7 HD7.out.st.own mn (by rw [HL7.out];have:=HFIN.out;have:=HYL.out;omega) HD7.out.bel.size;rw [HL7.out] at hrun;have hap:=tG (news:=aR mn) HD7.out.st (bH _ _) hg4 (v4:=.slice A8 (pl+4+mn) c8) (by rw [HL7.out,show (aR mn).length=mn from by simp [aR]];have h5:=hown4;unfold kV at h5;rw [List.length_append,HL7.out,show (aR mn).length=mn from by simp [aR]] at h5;exact h5) (by rw [dI];exact hat4) (fun z hz=>by rw [lV hz];decide);obtain ⟨A8',c8',he8,h8,hs4,hx4⟩:=hap;rw [HL7.out,show (aR mn).length=mn from by simp [aR]] at he8;injection he8 with he81 _ he82;subst he81 he82;rw [HL7.out] at h8;rw [HY0.out] at hs4
  have H8:=aA (HD7.out.step hs4 hx4);have HX8:=aA (HXD.out.trans hx4);have M18:=aA (M17d.out.wx hx4);have M28:=aA (M27d.out.wx hx4);have hV2:=cJ ((aF h8).2.2.2.2) (show V2.cell? ⟨W.heap.size+1,2,none⟩=some (.slice ka n kc) from by have h1:=(hg4.block (W.heap.size+1) (iI M27d.out.1) M27d.out.2.2).trans M27d.out.1;exact (aF h1).2.2.2.1);have m3f:=aB h8 3;clear hown4 hg4 hat4 h8 hs4 hx4 hi0 hzz0 hzz1 hzz2 i0;refine cA (i:=10) (by kernel_rfl) rfl (fun K hK=>?_);rw [bG (by kernel_rfl)];refine kF _ (.tmp 61) (.tmp 66) 22 3 rfl _ _ _ _ rfl rfl hrun ?_;refine hK.out _ _ trivial hV2 ?_;clear hK K hrun;have hV:=hV2;clear hV2;refine cA (i:=11) (by kernel_rfl) rfl (fun K hK=>?_);rw [bG (by kernel_rfl)];go_simp;refine hK.out _ _ trivial hV ?_;clear hK K;refine tt 12 (.pointer (some ⟨wk,3,none⟩)) hU hV ?_ ?_
  · intro w' hSw;obtain ⟨_,⟨t0,t1⟩⟩:=hSw;go_simp
  simp only [td];have m3:=hV.1;refine eW (by kernel_rfl) rfl (fun K hK=>?_);rw [bG (by kernel_rfl)];go_simp;refine hK.out _ _ trivial ?_;clear hK K hV m3 m3f;refine eX (by kernel_rfl) ?_ _;refine fI ?_;try simp only [Exit.then]
  generalize V2.setCell ⟨wk,3,none⟩ (.slice A8 (pl+4+mn) c8)=W8 at *;clear hprod hwm;have HST2:Hid (aCJ b w0 W wk A sv ev root f y0 ss es W.heap.size (W.heap.size+1) #[.int .u8 k,.int .i64 ref,.int .i64 lm] #[.int .u64 v.num,.slice ba v.bytes.length bc,.slice ka n kc,.bool v.has] n (.int .i64 ((0:Nat):Int)) W8):=aA ⟨0,A8,c8,Nat.zero_le _,rfl,H8.out,M18.out,M28.out,HX8.out⟩;clear H8 M18 M28 HX8 M17 M27 H7 HX7;go_wp2_with fail;go_loopw [10] (fun x wr=>aCJ b w0 W wk A sv ev root f y0 ss es W.heap.size (W.heap.size+1) #[.int .u8 k,.int .i64 ref,.int .i64 lm] #[.int .u64 v.num,.slice ba v.bytes.length bc,.slice ka n kc,.bool v.has] n x wr) (fun x _=>n-(intOf x).toNat)
  case atStart=>exact HST2.out
  case round =>
   obtain ⟨j,A9,c9,hj,rfl,h9,m19,m29,hx9⟩:=hrel;have H9:=aA h9;have M19:=aA m19;have M29:=aA m29;have HX9:=aA hx9;clear h9 m19 m29 hx9;obtain ⟨_,v0,v1,v2,v3⟩:=aF M29.out.1;by_cases hjn:j<n
   · have hji:(j:Int)<(n:Int):=by omega
     obtain ⟨kb,ko,u0,u1,u2,u3,q,hq,hka,k0,k1,k2,k3,hcall⟩:=HKID.out j hjn;have HCALL:=aA hcall;have d0:=aC H9.out.bel k0;have d1:=aC H9.out.bel k1;have d2:=aC H9.out.bel k2;have d3:=aC H9.out.bel k3;have D0:=aA (cJ k0 (cJ k1 (cJ k2 k3)));have hkc:n≤kc:=HKC.out;obtain ⟨mj,hmj⟩:∃ mj:Nat,j * 4=mj:=⟨_,rfl⟩;have hjp:(j:Int) * (4:Int)=(mj:Int):=by rw [←hmj];simp
     have hjm:mj+4≤mn:=by have h5:=HMN.out;have h6:(j+1) * 4≤n * 4:=Nat.mul_le_mul_right _ hjn;rw [Nat.mul_comm n] at h6;rw [Nat.add_mul] at h6;omega
     rw [hmj] at HCALL;have hwj:=cU (mj:Int);have hwp:=IntWalk.i64_in ((pl:Int)+4) ⟨by omega,by have:=HFIN.out;have:=HYL.out;omega⟩;have hwq:=IntWalk.i64_in ((pl:Int)+4+(mj:Int)) ⟨by omega,by have:=HFIN.out;have:=HYL.out;omega⟩;have HPJ:=aA hjm;have HJN:=aA hjn;have HYJ:Hid (pl+4+mn≤(eK f y0 j).length):=aA (by have h5:=HYL.out;have h6:=HGR.out j;omega)
     obtain ⟨_,t0,t1,t2,_⟩:=aS M19.out.1;clear k0 k1 k2 k3 hcall hmj hjm;subst hka;go_upto_region 14 with (fail);have s0:=t0;have s1:=t1;have s2:=t2;have s3:=v2;have s4:=d0;have s5:=d1;have s6:=d2;have s7:=d3;clear t0 t1 t2 v0 v1 v2 v3 d0 d1 d2 d3;refine gL ?_;refine aFY s0 s1 s2 s3 s4 s5 s6 s7 ?_;intro hS;refine aK 0 (.pointer (some ⟨wk,0,none⟩)) ?_;simp only [td];refine aK 1 (.agg #[.int .u8 k,.int .i64 ref,.int .i64 lm]) ?_;simp only [td];refine aK 2 (.pointer (some ⟨W.heap.size+1,2,none⟩)) ?_;simp only [td];refine aK 3 (.slice (some ⟨kb,ko,none⟩) n kc) ?_;simp only [td];refine aK 4 (.int .i64 j) ?_;simp only [td];refine aK 5 (.pointer (some ⟨kb,ko+j * 4,none⟩)) ?_;simp only [td];refine aK 6 (.agg #[u0,u1,u2,u3]) ?_;simp only [td];refine aK 7 (.int .i64 pl) ?_;simp only [td];refine aK 8 (.int .i64 ((pl:Int)+4)) ?_;simp only [td];refine aK 9 (.int .i64 j) ?_;simp only [td]
     refine aK 10 (.int .i64 4) ?_;simp only [td];refine aK 11 (.int .i64 mj) ?_;simp only [td];refine aK 12 (.int .i64 ((pl:Int)+4+(mj:Int))) ?_;simp only [td];refine bS 13 fun K hK=>?_;go_simp;have HCA:=(HCALL.out wr.drew A9 c9 (eK f y0 j) (H9.out.below (bH _ _).drew) (by have:=HYJ.out;have:=HPJ.out;omega) (eM (HUP.out (j+1) HJN.out) HFIN.out.2));rw [show ((pl+4+mj:Nat):Int)=(pl:Int)+4+(mj:Int) from by omega] at HCA;refine HCA.mono ?_;rintro e W9 hp;obtain ⟨A10,c10,rfl,h10,hx10⟩:=(H9.out.below (bH _ _).drew).post hp;have hxx:=(Wx.of_below (wk:=wk) A9 (bH wr.heap.size wr).drew).trans hx10;have H10:=aA h10;have HX10:=aA (HX9.out.trans hxx);have M110:=aA (M19.out.wx hxx);have M210:=aA (M29.out.wx hxx);have N1:=aS M110.out.1
     refine hK.out _ _ ⟨N1.2.1,N1.2.2.1,N1.2.2.2.1,(aF M210.out.1).2.2.2.1,aC h10.bel D0.out.1,aC h10.bel D0.out.2.1,aC h10.bel D0.out.2.2.1,aC h10.bel D0.out.2.2.2⟩ (fun hS=>?_);clear N1 hxx hp h10 hx10 hS s0 s1 s2 s3 s4 s5 s6 s7;refine gA (by kernel_rfl) ?_ _;refine fI ?_;try simp only [Exit.then]
     go_wp2;go_roundw
     case rel=>exact ⟨j+1,A10,c10,HJN.out,by go_num,H10.out,M110.out,M210.out,HX10.out⟩
     case measure=>simp [intOf];omega
   · obtain rfl:j=n:=by omega
     have hji:¬(j:Int)<(j:Int):=by omega
     go_wp2;first|refine bodyPost_end (v:=.tuple #[]) (by simp [results,Tryd.results88,go_sem]) rfl ?_|refine dZ (v:=.tuple #[]) (by simp [results,Tryd.results88,go_sem]) rfl ?_
     rw [HP.out];exact ⟨rfl,A9,c9,H9.out.st,HX9.out⟩
theorem aBe (r:Nat)(hN:∀ q,r=q+1→tH q)(h:ECtx b w0 W wk A cap sv ev root zs ss es)(k ref lm:Nat)(v:PV)(val:Value)(a:Nat)(hv:IsV w0 v val)(hk1:1≤k)(hk:k≤13)(hl3:lm+1≤3)(hf:cZ (aG ss) (es.map Prod.fst) r k ref ((lm+1:Nat):Int) v=true)(ha:a+4≤zs.length)(hl:(gR (fJ (ss.map Prod.fst) r) k ref (((lm+1:Nat):Int)-1) v a zs).length≤70368744177664)(hnum:cK k lm=true)(hs8:bN k lm=8) :
  Calls Tryd.prog 88 #[.pointer (some ⟨wk,0,none⟩),.agg #[.int .u8 k,.int .i64 ref,.int .i64 ((lm+1:Nat):Int)],val,.int .i64 a] W (dR (.tuple #[]) w0.heap.size wk A sv ev root (gR (fJ (ss.map Prod.fst) r) k ref (((lm+1:Nat):Int)-1) v a zs) W):=by
 have els:=pO (show (0:Int)<((lm+1:Nat):Int) by omega) hf;have hlm:(((lm+1:Nat):Int)-1)=(lm:Int):=by omega
 rw [hlm] at els hl ⊢;obtain ⟨ba,ka,bc,kc,rfl,hn,hby,hbl,hbm,hkl,hkm,hkids⟩:=hv.form;have hb0:=h.bel.size
 -- the plain side
 have hst:bN k lm=((8:Nat):Int):=hs8;have hst8:1≤8∧8≤8:=by decide
 obtain ⟨K,z1,hK8,hz1,hKK⟩:∃ (K:Nat) (z1:List Int),K≤4∧z1=cQ 4 zs++aR K∧(if 8=8∧((cQ 4 zs).length+4) % 8≠0 then cQ 4 zs++aR 4 else cQ 4 zs)=z1∧(∀ j,j<K→8=8∧¬((cQ 4 zs).length+j+4) % 8=0)∧(8=8→((cQ 4 zs).length+K+4) % 8=0):=by
  have h4:(cQ 4 zs).length % 4=0:=by unfold cQ aR;rw [List.length_append,List.length_replicate];omega
  by_cases h8:8=8∧((cQ 4 zs).length+4) % 8≠0
  · exact ⟨4,cQ 4 zs++aR 4,by omega,rfl,by rw [bG h8],fun j hj=>⟨h8.1,by omega⟩,fun _=>by omega⟩
  · refine ⟨0,cQ 4 zs,by omega,(List.append_nil _).symm,by rw [if_neg h8],fun j hj=>absurd hj (Nat.not_lt_zero _),fun h9=>?_⟩;have h10:¬((cQ 4 zs).length+4) % 8≠0:=fun h11=>h8 ⟨h9,h11⟩;omega
 obtain ⟨f,hfd⟩:∃ f:Nat→List Int→List Int,(fun i=>fJ (ss.map Prod.fst) r k ref lm (v.kids.getD i (dY 0)) (z1.length+4+i * 8))=f:=⟨_,rfl⟩;obtain ⟨y0,hy0⟩:∃ y0:List Int,kL a 4 ((z1.length:Int)-a) (hI 4 (v.kids.length:Nat) z1)++aR (8 * v.kids.length)=y0:=⟨_,rfl⟩;have hres:gR (fJ (ss.map Prod.fst) r) k ref lm v a zs=eK f y0 v.kids.length:=by unfold gR;rw [hst,lN];rw [←hfd,←hy0,←hKK.1]
 have hfg:∀ i ys,ys.length≤(f i ys).length:=fun i ys=>by rw [←hfd];exact hH _ _ _ _ _ _ _ _
 have hup:=fun j hj=>lZ hfg y0 j v.kids.length hj;have hylen:y0.length=z1.length+4+8 * v.kids.length:=by rw [←hy0,List.length_append,bX,bC,aR,List.length_replicate]
 rw [hres] at hl ⊢;have hfin:=hup 0 (Nat.zero_le _);change y0.length≤_ at hfin;have hpl:=iK 4 zs;have hzl:z1.length=(cQ 4 zs).length+K:=by rw [hz1];simp [aR]
 obtain ⟨n,hnk⟩:∃ n,v.kids.length=n:=⟨_,rfl⟩;rw [hnk] at hres hl hup hylen hfin hkl hkm;have hmul:n≤8 * n:=by have:=Nat.mul_le_mul_right n hst8.1;omega
 -- the kids
 have HKID:Hid (∀ j (hj:j<n),∃ (kb ko:Nat) (u0 u1 u2 u3:Value) (q:Nat),r=q+1∧ka=some ⟨kb,ko,none⟩∧w0.cell? ⟨kb,ko+j * 4,none⟩=some u0∧w0.cell? ⟨kb,ko+j * 4+1,none⟩=some u1∧w0.cell? ⟨kb,ko+j * 4+2,none⟩=some u2∧w0.cell? ⟨kb,ko+j * 4+3,none⟩=some u3 ∧
   ∀ W' A' c' ys,ECtx b w0 W' wk A' c' sv ev root ys ss es→z1.length+4+j * 8+8≤ys.length→(f j ys).length≤70368744177664→Calls Tryd.prog 66 #[.pointer (some ⟨wk,0,none⟩),.agg #[.int .u8 k,.int .i64 ref,.int .i64 lm],.agg #[u0,u1,u2,u3],.int .i64 ((z1.length+4+j * 8:Nat):Int)] W' (dR (.tuple #[]) w0.heap.size wk A' sv ev root (f j ys) W')):=aA (fun j hj=>by
  obtain ⟨kb,ko,u0,u1,u2,u3,e1,c0,c1,c2,c3,hiv⟩:=hkids j (by omega);have hjk:j<v.kids.length:=by omega
  rcases els with e|⟨q,hq,hels⟩
  · rw [e] at hjk;exact absurd hjk (Nat.not_lt_zero _)
  · refine ⟨kb,ko,u0,u1,u2,u3,q,hq,e1,c0,c1,c2,c3,fun W' A' c' ys hctx hpl hlen=>?_⟩;obtain ⟨hfk,hhk⟩:=hels v.kids[j] (jK hjk);have e3:f j ys=oL (ss.map Prod.fst) (fJ (ss.map Prod.fst) q) k ref lm v.kids[j] (z1.length+4+j * 8) ys:=by
     rw [←hfd];show fJ (ss.map Prod.fst) r k ref lm (v.kids.getD j (dY 0)) _ ys=_;rw [hq,List.getD,iO hjk,Option.getD_some];rfl
    rw [e3] at hlen ⊢;exact hN q hq b w0 W' wk A' c' sv ev root ys ss es k ref lm v.kids[j] _ _ hctx hiv hk1 hk (by omega) hfk (fun h13 h0=>hhk h13 (by omega)) (by have h6:gK k lm=bN k lm:=rfl;rw [h6,hst,lN];exact hpl) hlen)
 obtain ⟨lI,hlI⟩:∃ lI:Int,((lm+1:Nat):Int)=lI:=⟨_,rfl⟩;have hlw:lI-1=(lm:Int):=by omega
 rw [hlI];obtain ⟨hb,hq1,hq2⟩:=bF W #[.int .u8 k,.int .i64 ref,.int .i64 lm] #[.int .u64 v.num,.slice ba v.bytes.length bc,.slice ka n kc,.bool v.has] 75 38;have L1:=aA (Loc.new h.st bD hq1);have L2:=aA (Loc.new (p:=W.heap.size+1) h.st (Nat.le_succ _) hq2);have H0:=aA (h.below hb);have HX0:=aA (Wx.of_below (wk:=wk) A hb);have HN0:=aA (fun W'=>cD k (by omega) ref lm W');have HSZ:=aA (fun W'=>bY k W');have HB0:=aA hb0;obtain ⟨P,hP⟩:∃ P,dR (.tuple #[]) w0.heap.size wk A sv ev root (eK f y0 n) W=P:=⟨_,rfl⟩;rw [hnk,hP];have HP:=aA hP.symm;have HNK:=aA hnk;have HKC:=aA hkl;have HGR:=aA (fun j=>gU hfg y0 j);have HKC:=aA hkl;have HGR:=aA (fun j=>gU hfg y0 j);have HY0:=aA hy0;have HYL:=aA hylen;have HFIN:=aA (cJ hfin hl);have HUP:=aA hup;have HPL:=aA hpl;have HZL:=aA hzl;have HZ1:=aA hz1;have HKB:=aA hKK.2;have HK4:=aA hK8;have HA:=aA ha;have HST:=aA hst8
 have HMUL:=aA hmul;have hlw2:=cU (lm:Int);have hw8:=cU (k:Int);have hst':(if cK k lm=true then aP k else 4)=(8:Int):=hst;have hk255:k≤255:=by omega
 clear hs8 hb hq1 hq2 hP h hv hby hbl hbm hkl hkm hb0 hn hkids els hf hN hfd hy0 hres hfg hup hylen hfin hpl hzl hz1 hKK hK8 ha hl hst hst8 hmul hlm hnk hlI;go_enter Tryd.func88,Tryd.ntmps88;go_upto_region 1 with (fail);go_upto_region 3 with (fail);generalize (W.alloc (.cells #[.int .u8 k,.int .i64 ref,.int .i64 lm] 75)).alloc (.cells #[.int .u64 v.num,.slice ba v.bytes.length bc,.slice ka n kc,.bool v.has] 38)=W1 at *;obtain ⟨_,t0,t1,t2,_⟩:=aS L1.out.1;go_wp2_with fail;refine (HN0.out _).mono ?_;rintro e W2 ⟨rfl,hb2⟩;rw [hnum];have H2:=aA (H0.out.below hb2);have HX2:=aA (HX0.out.trans (Wx.of_below A hb2));have M1:=aA (L1.out.bel hb2);have M2:=aA (L2.out.bel hb2);clear hb2 t0 t1 t2 L1 L2 H0 HX0;obtain ⟨_,t0,t1,t2,_⟩:=aS M1.out.1;rw [hnum,bG rfl] at hst';rw [hst'] at HSZ
 clear hst';go_wp2_with fail;refine (HSZ.out _).mono ?_;rintro e _ ⟨rfl,rfl⟩;clear t0 t1 t2;go_wp2_with fail;refine (jD W2 H2.out.st 4 (.inr (.inl rfl)) (by have:=HFIN.out;have:=HPL.out;have:=HZL.out;have:=HYL.out;omega) H2.out.bel.size).mono ?_;rintro e W3 hp;obtain ⟨A3,c3,rfl,h3,hx3⟩:=H2.out.post hp;have H3:=aA h3;have HX3:=aA (HX2.out.trans hx3);have M13:=aA (M1.out.wx hx3);have M23:=aA (M2.out.wx hx3);clear hp h3 hx3 M1 M2 H2 HX2;have HST1:Hid (aCD b w0 W wk A sv ev root (cQ 4 zs) ss es W.heap.size (W.heap.size+1) #[.int .u8 k,.int .i64 ref,.int .i64 lm] #[.int .u64 v.num,.slice ba v.bytes.length bc,.slice ka n kc,.bool v.has] K W3):=aA ⟨0,A3,c3,Nat.zero_le _,by rw [show cQ 4 zs++aR 0=cQ 4 zs from List.append_nil _];exact H3.out,M13.out,M23.out,HX3.out⟩;clear H3 HX3 M13 M23;go_wp2_with fail
 go_loopw [] (fun wr=>aCD b w0 W wk A sv ev root (cQ 4 zs) ss es W.heap.size (W.heap.size+1) #[.int .u8 k,.int .i64 ref,.int .i64 lm] #[.int .u64 v.num,.slice ba v.bytes.length bc,.slice ka n kc,.bool v.has] K wr) (fun wr=>(cQ 4 zs).length+K-uX (wr.cell? ⟨wk,3,none⟩))
 case atStart=>exact HST1.out
 case round =>
  obtain ⟨j,A5,c5,hj,h5,m15,m25,hx5⟩:=hrel;have H5:=aA h5;have HX5:=aA hx5;have M15:=aA m15;have M25:=aA m25;have hlen:(cQ 4 zs++aR j).length=(cQ 4 zs).length+j:=by simp [aR]
  obtain ⟨_,_,_,_,c3⟩:=aF h5.st.blk;rw [hlen] at c3;have hcp:=h5.st.few;rw [hlen] at hcp;have HLEN:=aA hlen;clear h5 hx5 m15 m25 hlen;have hbig:(cQ 4 zs).length+j≤70368744177680:=by have:=HFIN.out;have:=HYL.out;have:=HZL.out;have:=HK4.out;omega
  obtain ⟨m,hm⟩:∃ m,(cQ 4 zs).length+j=m:=⟨_,rfl⟩;rw [hm] at c3 hcp hbig;have HM:=aA hm;have hwm4:=cU ((m:Int)+4);by_cases hjK:j<K
  · obtain ⟨r5,hr5⟩:∃ r5:Nat,(m+4) % 8=r5:=⟨_,rfl⟩;have hmod:((m:Int)+4).tmod 8=r5:=by rw [Int.tmod_eq_emod_of_nonneg (by omega)];omega
    have hr0:((r5:Int)==0)=false:=by have h1:=(HKB.out.1 j hjK).2;rw [hm,hr5] at h1;simp;omega
    have HJK:=aA hjK;obtain ⟨i0,hi0,hzz0,hzz1,hzz2⟩:=info_parts gT;have I1:=aA hi0;have I2:=aA hzz0;have I3:=aA hzz1;have I4:=aA hzz2;have HBN:=aA (cN wr (.cells #[.int .u8 0] 5));have HBA:=aA ((bH wr.heap.size wr).alloc bD (.cells #[.int .u8 0] 5));have hown:=H5.out.st.own;unfold kV at hown;rw [HLEN.out,hm] at hown;have HUA:=aA (bE HBA.out hown);have HBB:=aA H5.out.bel.size;clear hr5 hm hi0 hzz0 hzz1 hzz2 hjK hown
    go_wp2_with (at_builtin;refine wpList_append_own_at _ rfl (.tmp 39) (.tmp 40) 22 rfl w0.heap.size 5 i0 _ 1 1 Tryd.underlying22 I1.out I2.out I3.out I4.out rfl (by decide) _ m (eI (cQ 4 zs++aR j)) rfl HUA.out _ 1 1 [.int .u8 0] rfl rfl (World.news_of_block HBN.out) (by intro u hu;rw [List.mem_singleton.1 hu];rfl) (by unfold maxLen;omega) (by omega) (by have:=HBB.out;simp;omega) ?_;intro v4 W8 hown4 hg4 hx hat4;clear hx;have hap:=pZ (news:=[0]) (A:=A5) (cap:=c5) (n:=m) H5.out.st HBA.out rfl hg4 (show (cQ 4 zs++aR j).length+1=m+1 by rw [HLEN.out,HM.out]) (by simpa [eI] using hown4) hat4 (by intro z hz;rw [List.mem_singleton.1 hz];decide);clear hown4 hg4 hat4;obtain ⟨A7,cap7,rfl,h8,hs7,hx7⟩:=hap;obtain ⟨_,d0,d1,d2,d3⟩:=aF h8;have e3:=aB h8 3;have S7:=aA hs7;have X7:=aA hx7;clear h8 hs7 hx7);go_roundw
    case rel =>
     exact ⟨j+1,A7,cap7,HJK.out,by rw [←pB];exact H5.out.step S7.out X7.out,M15.out.wx X7.out,M25.out.wx X7.out,HX5.out.trans X7.out⟩
    case measure =>
     have h1:=(aF S7.out.blk).2.2.2.2;have h2:=(aF H5.out.st.blk).2.2.2.2;rw [h1,h2];simp only [uX];have h3:=HLEN.out;have h4:=HJK.out;have h5:(cQ 4 zs++aR j++[0]).length=(cQ 4 zs).length+j+1:=by rw [List.length_append,h3];rfl
     omega
  · obtain rfl:j=K:=by omega
    have hmod:((m:Int)+4).tmod 8=0:=by have h1:=HKB.out.2 (by trivial);rw [hm] at h1;rw [Int.tmod_eq_emod_of_nonneg (by omega)];omega
    rw [←HZ1.out] at H5;obtain ⟨_,v0,v1,v2,v3⟩:=aF M25.out.1;have hwn:=IntWalk.u64_in (n:Int) ⟨by omega,by have:=HFIN.out;have:=HYL.out;have:=HMUL.out;omega⟩;clear hm hjK HLEN;go_wp2_with fail;refine (jI wr H5.out.st 4 (n:Int) (by decide) (by have:=HFIN.out;have:=HYL.out;omega) H5.out.bel.size).mono ?_;rintro e W6 hp;obtain ⟨A6,c6,rfl,h6,hx6⟩:=H5.out.post hp;have H6:=aA h6;have HX6:=aA (HX5.out.trans hx6);have M16:=aA (M15.out.wx hx6);have M26:=aA (M25.out.wx hx6);clear hp h6 hx6 M15 M25 H5 HX5 v0 v1 v2 v3;obtain ⟨pl,hpl⟩:∃ pl,z1.length=pl:=⟨_,rfl⟩;rw [hpl] at HYL HY0 HKID HZL ⊢;have HP1:=aA hpl;have hws:=IntWalk.i64_in ((pl:Int)-a) ⟨by have:=HA.out;have:=HPL.out;have:=HZL.out;omega,by have:=HFIN.out;have:=HYL.out;omega⟩;have hwu:=IntWalk.u64_in ((pl:Int)-a) ⟨by have:=HA.out;have:=HPL.out;have:=HZL.out;omega,by have:=HFIN.out;have:=HYL.out;omega⟩;clear hpl;go_wp2_with fail
    refine (mA W6 H6.out.st a 4 ((pl:Int)-a) (by decide) (by rw [bC,HP1.out];have:=HA.out;have:=HPL.out;have:=HZL.out;omega) (by rw [bC,HP1.out];have:=HFIN.out;have:=HYL.out;omega) H6.out.bel.size).mono ?_;rintro e W7 hp;obtain ⟨A7,c7,rfl,h7,hx7⟩:=H6.out.post hp;have H7:=aA h7;have HX7:=aA (HX6.out.trans hx7);have M17:=aA (M16.out.wx hx7);have M27:=aA (M26.out.wx hx7);clear hp h7 hx7 M16 M26 H6 HX6 hws hwu;have hl7:(kL a 4 ((pl:Int)-a) (hI 4 (n:Int) z1)).length=pl+4:=by rw [bX,bC,HP1.out]
    have HL7:=aA hl7;obtain ⟨z7,hz7⟩:∃ z7,kL a 4 ((pl:Int)-a) (hI 4 (n:Int) z1)=z7:=⟨_,rfl⟩;rw [HNK.out] at HY0;rw [hz7] at H7 HL7 HY0 hl7;clear hz7;obtain ⟨mn,hmn⟩:∃ mn:Nat,8 * n=mn:=⟨_,rfl⟩;have hprod:(8:Int) * (n:Int)=(mn:Int):=by rw [←hmn];simp
    rw [hmn] at HY0 HYL HMUL;have HMN:=aA hmn;clear hmn;have hmb:mn≤70368744177664:=by have:=HFIN.out;have:=HYL.out;omega
    have hnb:n≤70368744177664:=by have:=HMUL.out;omega
    have hwm:=cU (mn:Int);obtain ⟨_,_,_,_,c73⟩:=aF H7.out.st.blk;obtain ⟨_,v0,v1,v2,v3⟩:=aF M27.out.1;rw [hl7] at c73;clear hl7;go_upto_region 10 with (fail);have s0:=c73;have s1:=v2;clear c73 v0 v1 v2 v3;refine gL ?_;refine eG 13 (fun _=>True) (fun w'=>w'.cell? ⟨wk,3,none⟩=some (.slice A7 (pl+4) c7)∧w'.cell? ⟨W.heap.size+1,2,none⟩=some (.slice ka n kc)) (by kernel_rfl) ?_;have HB0':=aA ((bH W7.heap.size W7).drew);have HD7:=aA (H7.out.below HB0'.out);have HXD:=aA (HX7.out.trans (Wx.of_below A7 HB0'.out));have M17d:=aA (M17.out.bel HB0'.out);have M27d:=aA (M27.out.bel HB0'.out);have hV:=cJ (aC HB0'.out s0) (aC HB0'.out s1);generalize W7.drew=V0 at *;have hU:True:=trivial;refine tt 0 (.pointer (some ⟨wk,0,none⟩)) hU hV ?_ ?_
    · intro w' hSw;obtain ⟨_,⟨t0,t1⟩⟩:=hSw;go_simp
    simp only [td];refine tt 1 (.pointer (some ⟨wk,0,none⟩)) hU hV ?_ ?_
    · intro w' hSw;obtain ⟨_,⟨t0,t1⟩⟩:=hSw;go_simp
    simp only [td];refine tt 2 (.pointer (some ⟨wk,0,none⟩)) hU hV ?_ ?_
    · intro w' hSw;obtain ⟨_,⟨t0,t1⟩⟩:=hSw;go_simp
    simp only [td];refine tt 3 (.pointer (some ⟨wk,3,none⟩)) hU hV ?_ ?_
    · intro w' hSw;obtain ⟨_,⟨t0,t1⟩⟩:=hSw;go_simp
    simp only [td];refine tt 4 (.slice A7 (pl+4) c7) hU hV ?_ ?_
    · intro w' hSw;obtain ⟨_,⟨t0,t1⟩⟩:=hSw;go_simp
    simp only [td];refine tt 5 (.int .i64 8) hU hV ?_ ?_
    · intro w' hSw;obtain ⟨_,⟨t0,t1⟩⟩:=hSw;go_simp
    simp only [td];refine tt 6 (.pointer (some ⟨W.heap.size+1,2,none⟩)) hU hV ?_ ?_
    · intro w' hSw;obtain ⟨_,⟨t0,t1⟩⟩:=hSw;go_simp
    simp only [td];refine tt 7 (.slice ka n kc) hU hV ?_ ?_
    · intro w' hSw;obtain ⟨_,⟨t0,t1⟩⟩:=hSw;go_simp
    simp only [td];refine tt 8 (.int .i64 n) hU hV ?_ ?_
    · intro w' hSw;obtain ⟨_,⟨t0,t1⟩⟩:=hSw;go_simp
    simp only [td];refine tt 9 (.int .i64 mn) hU hV ?_ ?_
    · intro w' hSw;obtain ⟨_,⟨t0,t1⟩⟩:=hSw;go_simp
    simp only [td];obtain ⟨i0,hi0,hzz0,hzz1,hzz2⟩:=info_parts gT;obtain ⟨A8,c8,V2,hrun,hown4,hg4,hat4⟩:=iX (P:=Tryd.prog) (w:=V0) w0.heap.size 22 3 22 5 i0 Tryd.underlying22 Tryd.underlying3 hi0 hzz0 hzz1 hzz2 A7 c7 z7 HD7.out.st.own mn (by rw [HL7.out];have:=HFIN.out;have:=HYL.out;omega) HD7.out.bel.size;rw [HL7.out] at hrun;have hap:=tG (news:=aR mn) HD7.out.st (bH _ _) hg4 (v4:=.slice A8 (pl+4+mn) c8) (by rw [HL7.out,show (aR mn).length=mn from by simp [aR]];have h5:=hown4;unfold kV at h5;rw [List.length_append,HL7.out,show (aR mn).length=mn from by simp [aR]] at h5;exact h5) (by rw [dI];exact hat4) (fun z hz=>by rw [lV hz];decide);obtain ⟨A8',c8',he8,h8,hs4,hx4⟩:=hap;rw [HL7.out,show (aR mn).length=mn from by simp [aR]] at he8;injection he8 with he81 _ he82;subst he81 he82;rw [HL7.out] at h8;rw [HY0.out] at hs4
    have H8:=aA (HD7.out.step hs4 hx4);have HX8:=aA (HXD.out.trans hx4);have M18:=aA (M17d.out.wx hx4);have M28:=aA (M27d.out.wx hx4);have hV2:=cJ ((aF h8).2.2.2.2) (show V2.cell? ⟨W.heap.size+1,2,none⟩=some (.slice ka n kc) from by have h1:=(hg4.block (W.heap.size+1) (iI M27d.out.1) M27d.out.2.2).trans M27d.out.1;exact (aF h1).2.2.2.1);have m3f:=aB h8 3;clear hown4 hg4 hat4 h8 hs4 hx4 hi0 hzz0 hzz1 hzz2 i0;refine cA (i:=10) (by kernel_rfl) rfl (fun K hK=>?_);rw [bG (by kernel_rfl)];refine kF _ (.tmp 61) (.tmp 66) 22 3 rfl _ _ _ _ rfl rfl hrun ?_;refine hK.out _ _ trivial hV2 ?_;clear hK K hrun;have hV:=hV2;clear hV2;refine cA (i:=11) (by kernel_rfl) rfl (fun K hK=>?_);rw [bG (by kernel_rfl)];go_simp;refine hK.out _ _ trivial hV ?_;clear hK K;refine tt 12 (.pointer (some ⟨wk,3,none⟩)) hU hV ?_ ?_
    · intro w' hSw;obtain ⟨_,⟨t0,t1⟩⟩:=hSw;go_simp
    simp only [td];have m3:=hV.1;refine eW (by kernel_rfl) rfl (fun K hK=>?_);rw [bG (by kernel_rfl)];go_simp;refine hK.out _ _ trivial ?_;clear hK K hV m3 m3f;refine eX (by kernel_rfl) ?_ _;refine fI ?_;try simp only [Exit.then]
    generalize V2.setCell ⟨wk,3,none⟩ (.slice A8 (pl+4+mn) c8)=W8 at *;clear hprod hwm;have HST2:Hid (aCJ b w0 W wk A sv ev root f y0 ss es W.heap.size (W.heap.size+1) #[.int .u8 k,.int .i64 ref,.int .i64 lm] #[.int .u64 v.num,.slice ba v.bytes.length bc,.slice ka n kc,.bool v.has] n (.int .i64 ((0:Nat):Int)) W8):=aA ⟨0,A8,c8,Nat.zero_le _,rfl,H8.out,M18.out,M28.out,HX8.out⟩;clear H8 M18 M28 HX8 M17 M27 H7 HX7;go_wp2_with fail;go_loopw [10] (fun x wr=>aCJ b w0 W wk A sv ev root f y0 ss es W.heap.size (W.heap.size+1) #[.int .u8 k,.int .i64 ref,.int .i64 lm] #[.int .u64 v.num,.slice ba v.bytes.length bc,.slice ka n kc,.bool v.has] n x wr) (fun x _=>n-(intOf x).toNat)
    case atStart=>exact HST2.out
    case round =>
     obtain ⟨j,A9,c9,hj,rfl,h9,m19,m29,hx9⟩:=hrel;have H9:=aA h9;have M19:=aA m19;have M29:=aA m29;have HX9:=aA hx9;clear h9 m19 m29 hx9;obtain ⟨_,v0,v1,v2,v3⟩:=aF M29.out.1;by_cases hjn:j<n
     · have hji:(j:Int)<(n:Int):=by omega
       obtain ⟨kb,ko,u0,u1,u2,u3,q,hq,hka,k0,k1,k2,k3,hcall⟩:=HKID.out j hjn;have HCALL:=aA hcall;have d0:=aC H9.out.bel k0;have d1:=aC H9.out.bel k1;have d2:=aC H9.out.bel k2;have d3:=aC H9.out.bel k3;have D0:=aA (cJ k0 (cJ k1 (cJ k2 k3)));have hkc:n≤kc:=HKC.out;obtain ⟨mj,hmj⟩:∃ mj:Nat,j * 8=mj:=⟨_,rfl⟩;have hjp:(j:Int) * (8:Int)=(mj:Int):=by rw [←hmj];simp
       have hjm:mj+8≤mn:=by have h5:=HMN.out;have h6:(j+1) * 8≤n * 8:=Nat.mul_le_mul_right _ hjn;rw [Nat.mul_comm n] at h6;rw [Nat.add_mul] at h6;omega
       rw [hmj] at HCALL;have hwj:=cU (mj:Int);have hwp:=IntWalk.i64_in ((pl:Int)+4) ⟨by omega,by have:=HFIN.out;have:=HYL.out;omega⟩;have hwq:=IntWalk.i64_in ((pl:Int)+4+(mj:Int)) ⟨by omega,by have:=HFIN.out;have:=HYL.out;omega⟩;have HPJ:=aA hjm;have HJN:=aA hjn;have HYJ:Hid (pl+4+mn≤(eK f y0 j).length):=aA (by have h5:=HYL.out;have h6:=HGR.out j;omega)
       obtain ⟨_,t0,t1,t2,_⟩:=aS M19.out.1;clear k0 k1 k2 k3 hcall hmj hjm;subst hka;go_upto_region 14 with (fail);have s0:=t0;have s1:=t1;have s2:=t2;have s3:=v2;have s4:=d0;have s5:=d1;have s6:=d2;have s7:=d3;clear t0 t1 t2 v0 v1 v2 v3 d0 d1 d2 d3;refine gL ?_;refine aFY s0 s1 s2 s3 s4 s5 s6 s7 ?_;intro hS;refine aK 0 (.pointer (some ⟨wk,0,none⟩)) ?_;simp only [td];refine aK 1 (.agg #[.int .u8 k,.int .i64 ref,.int .i64 lm]) ?_;simp only [td];refine aK 2 (.pointer (some ⟨W.heap.size+1,2,none⟩)) ?_;simp only [td];refine aK 3 (.slice (some ⟨kb,ko,none⟩) n kc) ?_;simp only [td];refine aK 4 (.int .i64 j) ?_;simp only [td];refine aK 5 (.pointer (some ⟨kb,ko+j * 4,none⟩)) ?_;simp only [td];refine aK 6 (.agg #[u0,u1,u2,u3]) ?_;simp only [td];refine aK 7 (.int .i64 pl) ?_;simp only [td];refine aK 8 (.int .i64 ((pl:Int)+4)) ?_;simp only [td];refine aK 9 (.int .i64 j) ?_;simp only [td]
       refine aK 10 (.int .i64 8) ?_;simp only [td];refine aK 11 (.int .i64 mj) ?_;simp only [td];refine aK 12 (.int .i64 ((pl:Int)+4+(mj:Int))) ?_;simp only [td];refine bS 13 fun K hK=>?_;go_simp;have HCA:=(HCALL.out wr.drew A9 c9 (eK f y0 j) (H9.out.below (bH _ _).drew) (by have:=HYJ.out;have:=HPJ.out;omega) (eM (HUP.out (j+1) HJN.out) HFIN.out.2));rw [show ((pl+4+mj:Nat):Int)=(pl:Int)+4+(mj:Int) from by omega] at HCA;refine HCA.mono ?_;rintro e W9 hp;obtain ⟨A10,c10,rfl,h10,hx10⟩:=(H9.out.below (bH _ _).drew).post hp;have hxx:=(Wx.of_below (wk:=wk) A9 (bH wr.heap.size wr).drew).trans hx10;have H10:=aA h10;have HX10:=aA (HX9.out.trans hxx);have M110:=aA (M19.out.wx hxx);have M210:=aA (M29.out.wx hxx);have N1:=aS M110.out.1
       refine hK.out _ _ ⟨N1.2.1,N1.2.2.1,N1.2.2.2.1,(aF M210.out.1).2.2.2.1,aC h10.bel D0.out.1,aC h10.bel D0.out.2.1,aC h10.bel D0.out.2.2.1,aC h10.bel D0.out.2.2.2⟩ (fun hS=>?_);clear N1 hxx hp h10 hx10 hS s0 s1 s2 s3 s4 s5 s6 s7;refine gA (by kernel_rfl) ?_ _;refine fI ?_;try simp only [Exit.then]
       go_wp2;go_roundw
       case rel=>exact ⟨j+1,A10,c10,HJN.out,by go_num,H10.out,M110.out,M210.out,HX10.out⟩
       case measure=>simp [intOf];omega
     · obtain rfl:j=n:=by omega
       have hji:¬(j:Int)<(j:Int):=by omega
       go_wp2;first|refine bodyPost_end (v:=.tuple #[]) (by simp [results,Tryd.results88,go_sem]) rfl ?_|refine dZ (v:=.tuple #[]) (by simp [results,Tryd.results88,go_sem]) rfl ?_
       rw [HP.out];exact ⟨rfl,A9,c9,H9.out.st,HX9.out⟩
theorem zT (r:Nat)(hN:∀ q,r=q+1→tH q):qP r:=by
 intro b w0 W wk A cap sv ev root zs ss es k ref lists v val a h hv hk1 hk hl1 hl3 hf ha hl;obtain ⟨lm,rfl⟩:∃ lm,lists=lm+1:=⟨lists-1,by omega⟩;by_cases hn:cK k lm=true
 · by_cases h8:aP k=8
   · exact aBe r hN h k ref lm v val a hv hk1 hk hl3 hf ha hl hn (by unfold bN;rw [bG hn];exact h8)
   · exact aAT r hN h k ref lm v val a hv hk1 hk hl3 hf ha hl hn (by unfold bN;rw [bG hn];exact h8)
 · exact aAG r hN h k ref lm v val a hv hk1 hk hl3 hf ha hl (Bool.not_eq_true _ |>.mp hn) (by unfold bN;rw [if_neg hn])
end Go.Proofs.YtpbaaiilfkacnaaDoor
