/-
  'Exw R S B w w'': below block B the world w' is as w was, but for the blocks R and S; what keeps that. Conditions: those that each theorem names.
-/
import Derived.Test.YtpbaaiilfkacnaaDoorPkQ3
namespace Go.Proofs.YtpbaaiilfkacnaaDoor
open Go.ChangeShapes Go.WideShapes Go.ChangeAt Go.RowKit
set_option maxRecDepth 100000
set_option maxHeartbeats 16000000
section
open Go.Shelf
structure SchAt (A:Nat)(W:World)(ss:List (bK × Value))(es:List (aX × Value))(sv ev:Value)(rt:Nat):Prop where
 blk:W.heap[A]?=some (.cells #[sv,ev,.int .i64 rt] 31 (0,0))
 rows:SchRows (A+1) W ss es sv ev
theorem SchAt.below {A rt:Nat}{W W':World}{ss:List (bK × Value)}{es:List (aX × Value)}{sv ev:Value}(h:SchAt A W ss es sv ev rt)(hb:Below W.heap.size W W'):SchAt A W' ss es sv ev rt:=
 ⟨aE h.blk hb (aD h.blk),h.rows.below hb⟩
theorem aBw {α:Type}{l:List α}{a p:α}(h:p ∈ l++[a]):p ∈ l∨p=a:=by
 rcases List.mem_append.1 h with h|h
 · exact .inl h
 · exact .inr (List.mem_singleton.1 h)
theorem SchAt.enum {A rt:Nat}{W W4:World}{ss:List (bK × Value)}{es:List (aX × Value)}{sv ev:Value}(h:SchAt A W ss es sv ev rt){q:aX × Value}(hq:W.ownsRow (A+1) 9 1 q.2 q.1.names.length (eY q.1.names))
  (hg:W.grownBy W4 ev.ownBlock) {ev':Value} (hown:W4.ownsRow (A+1) 86 2 ev' (es.length+1) (gY es++kD q)):SchAt A (W4.setCell ⟨A,1,none⟩ ev') ss (es++[q]) sv ev' rt:=by
 have hA:∀ k,ev.ownBlock=some k→A≠k:=fun k hk=>by have:=(aV h.rows.enums k hk).1;omega
 have hb4:W4.heap[A]?=some (.cells #[sv,ev,.int .i64 rt] 31 (0,0)):=(hg.block A (aD h.blk) (fun e=>hA A e.symm rfl)).trans h.blk;have key:∀ {e:TypeId} {s:Nat} {v:Value} {n:Nat} {xs:List Value},W.ownsRow (A+1) e s v n xs→e≠86 → (W4.setCell ⟨A,1,none⟩ ev').ownsRow (A+1) e s v n xs:=fun ho hne =>
  ownsRow_setCell_below (vK hg ho (aDM ho h.rows.enums hne)) (Nat.lt_succ_self A) _
 refine ⟨(aN hb4 1 ev').trans rfl,key h.rows.structs (by decide),?_,fun r hr=>key (h.rows.fields r hr) (by decide),fun r hr=>?_⟩
 · rw [rZ,List.length_append];exact ownsRow_setCell_below hown (Nat.lt_succ_self A) _
 · rcases aBw hr with hr|rfl
   · exact key (h.rows.names r hr) (by decide)
   · exact key hq (by decide)
theorem SchAt.strct {A rt:Nat}{W W4:World}{ss:List (bK × Value)}{es:List (aX × Value)}{sv ev:Value}(h:SchAt A W ss es sv ev rt){q:bK × Value}(hq:W.ownsRow (A+1) 77 5 q.2 q.1.fields.length (eH q.1.fields))
  (hg:W.grownBy W4 sv.ownBlock) {sv':Value} (hown:W4.ownsRow (A+1) 60 2 sv' (ss.length+1) (gD ss++hZ q)):SchAt A (W4.setCell ⟨A,0,none⟩ sv') (ss++[q]) es sv' ev rt:=by
 have hA:∀ k,sv.ownBlock=some k→A≠k:=fun k hk=>by have:=(aV h.rows.structs k hk).1;omega
 have hb4:W4.heap[A]?=some (.cells #[sv,ev,.int .i64 rt] 31 (0,0)):=(hg.block A (aD h.blk) (fun e=>hA A e.symm rfl)).trans h.blk;have key:∀ {e:TypeId} {s:Nat} {v:Value} {n:Nat} {xs:List Value},W.ownsRow (A+1) e s v n xs→e≠60 → (W4.setCell ⟨A,0,none⟩ sv').ownsRow (A+1) e s v n xs:=fun ho hne =>
  ownsRow_setCell_below (vK hg ho (aDM ho h.rows.structs hne)) (Nat.lt_succ_self A) _
 refine ⟨(aN hb4 0 sv').trans rfl,?_,key h.rows.enums (by decide),fun r hr=>?_,fun r hr=>key (h.rows.names r hr) (by decide)⟩
 · rw [rW,List.length_append];exact ownsRow_setCell_below hown (Nat.lt_succ_self A) _
 · rcases aBw hr with hr|rfl
   · exact key (h.rows.fields r hr) (by decide)
   · exact key hq (by decide)
structure MKeeps (w:World)(b:Nat)(x0 x1:Value)(rt:Nat)(tree:Bool)(W:World):Prop where
 hb:b=w.heap.size
 box:W.heap[b]?=some (.cells #[x0,x1,.int .u8 rt,.bool tree] 25 (0,0))
 res:W.heap[b+1]?=some (.cells #[.slice none 0 0,.slice none 0 0,.int .i64 0] 31 (0,0))
 bel:Below b w W
theorem MKeeps.below {w W W':World}{x0 x1:Value}{b rt B:Nat}{tree:Bool}(h:MKeeps w b x0 x1 rt tree W)(hb:Below B W W')(hB:b+2≤B):MKeeps w b x0 x1 rt tree W':=
 ⟨h.hb,aE h.box hb (by omega),aE h.res hb (by omega),h.bel.trans (hb.mono (by omega))⟩
theorem aBx {A:Nat}{W W2 W4:World}{row:Option Nat}(h2:Below W.heap.size W W2)(hA:A<W.heap.size)(hg:W2.grownBy W4 row)(hr:∀ k,row=some k→A≤k)(i:Nat)(v:Value):Below A W (W4.setCell ⟨A,i,none⟩ v):=
 ((h2.mono (Nat.le_of_lt hA)).grown hg (by have:=h2.size;omega) hr).setCell (p:=⟨A,i,none⟩) bD v
theorem aDP {Q:Exit→Act→World→Prop}{c:Act}{w w0:World}{p:dM}{a0 a1:Option Addr}{n0 c0 n1 c1 b rt:Nat}(hp:IsPlan w p a0 n0 c0 a1 n1 c1)(h8:n0≤8)(hc:FrA b 0 c)
  (hk:MKeeps w b (.slice a0 n0 c0) (.slice a1 n1 c1) p.root p.tree w0) (hs:SchAt (b+2) w0 [] [] (.slice none 0 0) (.slice none 0 0) rt)
  (hQ:∀ c' w' es ev,FrA b n0 c'→MKeeps w b (.slice a0 n0 c0) (.slice a1 n1 c1) p.root p.tree w'→SchAt (b+2) w' [] es (.slice none 0 0) ev rt→es.map Prod.fst=iP p n0→Q (.exit 0) c' w') :
  Code.wp Tryd.prog (Code.loop (qF 0)) Q c w0:=by
 refine wp_loop (fun c' w'=>∃ (i:Nat) (es:List (aX × Value)) (ev:Value),i≤n0∧FrA b i c'∧MKeeps w b (.slice a0 n0 c0) (.slice a1 n1 c1) p.root p.tree w'∧SchAt (b+2) w' [] es (.slice none 0 0) ev rt∧es.map Prod.fst=iP p i)
  (fun c' _=>n0-(intOf (c'.tmps.getD 5 undef)).toNat) ⟨0,[],_,Nat.zero_le _,hc,hk,hs,rfl⟩ ?_
 clear hc hk hs;rintro c wr ⟨i,es,ev,hi,hc,hk,hs,hes⟩;have HP:=aA hp;have HQ:=aA hQ;have HK:=aA hk;have HS:=aA hs;have HES:=aA hes;have hesl:es.length=i:=by have:=congrArg List.length hes;rw [iH] at this;simpa using this
 obtain ⟨u,rfl⟩:=aBF hc;have y0:=(aU hk.box 0).trans rfl;have hbl:b+2<wr.heap.size:=aD hs.blk;clear hc hQ hk hs hp hes;conv=>arg 2;whnf
 by_cases hlt:i<n0
 · obtain ⟨hz2,B,off,rfl,hB0,hz⟩:=HP.out.e_at i hlt;have hB:B<b:=by rw [HK.out.hb];exact hB0
   have HNS:Hid ((xK p i).names=nT (p.enums.getD i 0 % 32+1)):=aA rfl;generalize p.enums.getD i 0=z at *;have HESL:=aA hesl;have hesl2:es.length≤8:=by omega
   clear hesl;have hzr:=(HK.out.bel.cell (p:=⟨B,off+i,none⟩) hB).trans hz;have kc:=aBu;have hsz:¬9223372036854775807<1+(strOfNums [97+(i:Int)]).size:=by rw [strOfNums_size];simp
   obtain ⟨hb2,hB1,hB2⟩:=bF wr #[.int .u8 (97+(i:Int))] #[.string (mD i),.slice none 0 0] 5 86;have hzr2:=(hb2.cell (p:=⟨B,off+i,none⟩) (by show B<_;omega)).trans hzr;have HB2:=aA hb2;have HBB:=aA hB2;have HZR2:=aA hzr2;have HZ2:=aA hz2;have HBX:=aA (aE HK.out.box hb2 (by omega));clear hz hzr hb2 hB1 hB2 hzr2 hB0;go_wp2_with fail;refine aEq (C:=wr.heap.size+1) (z:=z) (nm:=.string (mD i)) ⟨rfl,rfl,rfl,rfl,rfl,rfl,rfl,rfl,rfl⟩ HBX.out (by omega) (by omega) HZR2.out HZ2.out hlt HBB.out ?_;intro c2 w2 nv hf hbel hC2 hrow2;obtain ⟨nva,nvc,rfl⟩:=aJ hrow2;have hb3:Below wr.heap.size wr w2:=HB2.out.trans (hbel.mono (by omega));have hs2:=HS.out.below hb3;have HS2:=aA hs2;have HK2:=aA (HK.out.below hb3 (by omega));have HROW:=aA hrow2;obtain ⟨_,z0,z1,z2,f0,f1,f2⟩:=aS hs2.blk;obtain ⟨hCl,d0,d1,_⟩:=mI hC2;obtain ⟨eva,evc,rfl⟩:=aJ hs2.rows.enums
   obtain ⟨i0,hi0,hzz0,hzz1,hzz2⟩:=info_parts aBT;have I1:=aA hi0;have I2:=aA hzz0;have I3:=aA hzz1;have I4:=aA hzz2;have hbs:b+2<w2.heap.size:=aD hs2.blk;have HBN:=aA (cN w2 (.cells #[.string (mD i),.slice nva (z % 32+1) nvc] 86));have HBA:=aA ((bH w2.heap.size w2).alloc bD (.cells #[.string (mD i),.slice nva (z % 32+1) nvc] 86));obtain ⟨u2,rfl⟩:=aBD hf;clear hf hbel hC2 hrow2 hb3 hs2 hi0 hzz0 hzz1 hzz2 HS HK y0 kc hsz hz2;simp only [Exit.inBlock,Exit.then]
   apply_assumption
   go_wp2_with (at_builtin;refine wpList_append_own _ rfl (.tmp 81) (.tmp 83) 29 rfl (b+2+1) 86 i0 _ 2 40 Tryd.underlying29 I1.out I2.out I3.out I4.out rfl (by decide) _ es.length (gY es) rfl (bE HBA.out HS2.out.rows.enums) _ 1 1 [.string (mD i),.slice nva (z % 32+1) nvc] rfl rfl (World.news_of_block HBN.out) (by intro u hu;simp at hu;rcases hu with rfl|rfl<;>rfl) (by unfold maxLen;omega) (by omega) (by simp;omega) ?_;intro v4 W8 hown4 hg4 hx;clear hx;obtain ⟨a4,m4,rfl⟩:=aJ hown4;have s5:=SchAt.enum (q:=(xK p i,.slice nva (z % 32+1) nvc)) (HS2.out.below HBA.out) (by have h:=eE (bE HBA.out HROW.out) (show b+2+1≤wr.heap.size+1+1 by omega);show World.ownsRow _ _ _ _ _ (xK p i).names.length (eY (xK p i).names);rw [HNS.out,wK];exact h) hg4 hown4;have s4:W8.heap[b+2]?=some (.cells #[.slice none 0 0,.slice eva es.length evc,.int .i64 rt] 31 (0,0)):=(hg4.block (b+2) (by simp;omega) (fun e=>by have:=(aV HS2.out.rows.enums _ e.symm).1;omega)).trans (HS2.out.below HBA.out).blk;obtain ⟨_,p0,p1,p2,q0,q1,q2⟩:=aS s4;have S5:=aA s5;have S6:=aA (aBx HBA.out hbs hg4 (fun k hk=>by have:=(aV HS2.out.rows.enums k hk).1;omega) 1 (.slice a4 (es.length+1) m4));clear s5 s4 hown4 hg4)
   refine ⟨⟨i+1,_,_,by omega,⟨rfl,rfl,rfl,rfl,rfl,rfl,rfl⟩,HK2.out.below S6.out bD,S5.out,by rw [List.map_append,HES.out,aAz];rfl⟩,?_⟩;show n0-(intOf (.int .i64 ((i:Int)+1))).toNat<n0-(intOf (.int .i64 (i:Int))).toNat;simp [intOf];omega
 · obtain rfl:i=n0:=by omega
   clear hlt;go_wp2;exact HQ.out _ _ _ _ ⟨rfl,rfl,rfl,rfl,rfl,rfl,rfl⟩ HK.out HS.out HES.out
theorem cD (k:Nat)(hk:k≤255)(ref lists:Int)(w:World) :
  Calls Tryd.prog 38 #[.agg #[.int .u8 k,.int .i64 ref,.int .i64 lists]] w fun e w'=>e=.returned (.bool (cK k lists))∧Below w.heap.size w w':=by
 have h0:=cN w (.cells #[.int .u8 k,.int .i64 ref,.int .i64 lists] 75);have HB:=aA ((bH w.heap.size w).alloc bD (.cells #[.int .u8 k,.int .i64 ref,.int .i64 lists] 75));obtain ⟨_,x0,x1,x2,_⟩:=aS h0;have hb1:(k:Int)≤255:=by omega
 have HN:Hid (cK k lists=(decide (lists=0)&&decide (0<aP k))):=aA rfl;generalize cK k lists=res at *;clear h0;by_cases hl:lists=0
 · have HE:=aA (show res=decide (0<aP k) by rw [HN.out,fO hl,Bool.true_and]);subst hl;clear HN;go_enter Tryd.func38,Tryd.ntmps38;go_wp2_with fail;refine (bY _ _).mono ?_;rintro e W1 ⟨rfl,rfl⟩;generalize aP (k:Int)=z at *;by_cases hs:0<z
   · have HR:=aA (show res=true by rw [HE.out];exact fO hs);clear HE;go_wp2;go_ret;exact ⟨bZ HR.out.symm,HB.out⟩
   · have HR:=aA (show decide (0<z)=res from HE.out.symm);clear HE;go_wp2;go_ret;exact ⟨bZ HR.out,HB.out⟩
 · have HE:=aA (show res=false by rw [HN.out,iB hl,Bool.false_and]);have t1:(lists==0)=false:=by simpa using hl
   clear HN hl;go_enter Tryd.func38,Tryd.ntmps38;go_wp2;go_ret;exact ⟨bZ HE.out.symm,HB.out⟩
theorem aCl (w:World){base:Nat}{ss:List (cO × Value)}{es:List (aX × Value)}{sv ev:Value}(root:Int)(h:CRows base w ss es sv ev)(k:Nat)(ref lists:Int)(n:Nat)(hk:k≤255)(hn:n≤18446744073709551615) :
  Calls Tryd.prog 81 #[.agg #[sv,ev,.int .i64 root],.agg #[.int .u8 k,.int .i64 ref,.int .i64 lists],.int .u64 n] w fun e w'=>e=.returned (.bool (dV (es.map Prod.fst) k ref lists n))∧Below w.heap.size w w':=by
 obtain ⟨hb,hq1,hq2⟩:=bF w #[sv,ev,.int .i64 root] #[.int .u8 k,.int .i64 ref,.int .i64 lists] 31 75;obtain ⟨sa,sc,ea,ec,rfl,rfl⟩:=h.forms;have hf2:=iG h.enums;obtain ⟨res,hres⟩:∃ res,dV (es.map Prod.fst) k ref lists n=res:=⟨_,rfl⟩;rw [hres];unfold dV at hres;rw [List.length_map] at hres;have HN:=aA hres;have HB:=aA hb;have HR:=aA (h.below hb);have HQ1:=aA hq1;have HQ2:=aA hq2;obtain ⟨_,q0,q1,q2,_⟩:=aS hq2;clear hq1 hq2 hb h hres;go_enter Tryd.func81,Tryd.ntmps81;go_upto_region 1 with (fail);generalize ((w.alloc (.cells #[.slice sa ss.length sc,.slice ea es.length ec,.int .i64 root] 31)).alloc (.cells #[.int .u8 k,.int .i64 ref,.int .i64 lists] 75))=W0 at *;go_wp2_with fail;refine (cD k hk ref lists _).mono ?_;rintro e W1 ⟨rfl,hb1⟩
 have HB1:=aA (HB.out.trans (hb1.mono HB.out.size));have HR1:=aA (HR.out.below hb1);obtain ⟨_,p0,p1,p2,_⟩:=aS (aE HQ1.out hb1 (aD HQ1.out));obtain ⟨_,r0,r1,r2,_⟩:=aS (aE HQ2.out hb1 (aD HQ2.out));clear hb1 q0 q1 q2 HB HR HQ1 HQ2;cases hnt:cK k lists
 · have HE:=aA (show res=false by rw [←HN.out,bG hnt]);clear HN hnt;go_wp2;go_ret;exact ⟨bZ HE.out.symm,HB1.out⟩
 have HN2:=aA (HN.out.symm.trans (if_neg (by rw [hnt];decide)));have HSZ:=aA (show 0<aP k from by unfold cK at hnt;rw [Bool.and_eq_true,decide_eq_true_iff,decide_eq_true_iff] at hnt;exact hnt.2);clear HN hnt;have hb1:(k:Int)≤255:=by omega
 go_wp2_with fail;refine (bY _ _).mono ?_;rintro e W2 ⟨rfl,rfl⟩;by_cases h1:k=1
 · subst h1;have HE:=aA (HN2.out.trans (bG rfl));clear HN2;by_cases hn1:n≤1
   · have HF:=aA (show res=true by rw [HE.out];exact fO hn1);have g:(n:Int)<2:=by omega
     clear HE;go_wp2;go_ret;exact ⟨bZ HF.out.symm,HB1.out⟩
   · have g:¬(n:Int)<2:=by omega
     have HF:=aA (show res=false by rw [HE.out];exact iB hn1);clear HE;go_wp2;go_ret;exact ⟨bZ ((iB (Int.not_lt.2 g)).trans HF.out.symm),HB1.out⟩
 have t1:((k:Int)==1)=false:=by simp;omega
 have HN3:=aA (HN2.out.trans (if_neg h1));clear HN2;by_cases h10:k=10
 · subst h10;have HE:=aA (HN3.out.trans (bG rfl));clear HN3;by_cases hr:0≤ref∧ref<(es.length:Int)
   · obtain ⟨j,rfl⟩:∃ j:Nat,ref=j:=⟨ref.toNat,by omega⟩;have hj:j<es.length:=by omega
     have HF:=aA (show res=decide (n<es[j].1.names.length) by rw [HE.out,fO hr,Bool.true_and,lN,List.getD_eq_getElem?_getD,List.getElem?_map,iO hj];rfl);obtain ⟨g,cc,hv,hcc,hg,hcell⟩:=eP kD 2 (fun _=>rfl) HR1.out.enums j hj;obtain ⟨rfl,rfl⟩:=dG hv;have hnm:=HR1.out.names _ (jK hj);obtain ⟨na,nc,hnv⟩:=aJ hnm;have hfn:=iG hnm;have x1:W1.cell? ⟨g,j * 2+1,none⟩=some (.slice na es[j].1.names.length nc):=by rw [←hnv];exact hcell 1 (by omega)
     generalize es[j].1.names.length=cnt at *;have hw:IntKind.u64.wrap (cnt:Int)=cnt:=IntWalk.u64_in _ (by omega);have hji:(j:Int)<es.length:=by omega
     have hj0:(0:Int)≤(j:Int):=by omega
     clear HE hv hcell hnm hnv hr;by_cases hnc:n<cnt
     · have HG:=aA (show res=true by rw [HF.out];exact fO hnc);have gc:(n:Int)<(cnt:Int):=by omega
       clear HF;go_wp2;go_ret;exact ⟨bZ HG.out.symm,HB1.out⟩
     · have HG:=aA (show res=false by rw [HF.out];exact iB hnc);have gc:¬(n:Int)<(cnt:Int):=by omega
       clear HF;go_wp2;go_ret;exact ⟨bZ HG.out.symm,HB1.out⟩
   · have HF:=aA (show res=false by rw [HE.out,iB hr,Bool.false_and]);clear HE;by_cases hr0:0≤ref
     · have hr1:¬ref<(es.length:Int):=fun e=>hr ⟨hr0,e⟩;clear hr;go_wp2;go_ret;exact ⟨bZ HF.out.symm,HB1.out⟩
     · clear hr;go_wp2;go_ret;exact ⟨bZ HF.out.symm,HB1.out⟩
 have t10:((k:Int)==10)=false:=by simp;omega
 have HN4:=aA (HN3.out.trans (if_neg h10));clear HN3;go_wp2_with fail;refine (fX _ _).mono ?_;rintro e W2 ⟨rfl,rfl⟩;cases hsg:eT (k:Int)
 · have HE:=aA (HN4.out.trans (if_neg (by rw [hsg];decide)));have hk4:k=6∨k=7∨k=8∨k=9:=by
    have hz:=HSZ.out;unfold eT at hsg;have hs2:=of_decide_eq_false hsg;unfold aP at hz;rcases Nat.lt_or_ge k 11 with h|h
    · have:k=0∨k=1∨k=2∨k=3∨k=4∨k=5∨k=6∨k=7∨k=8∨k=9∨k=10:=by omega
      rcases this with rfl|rfl|rfl|rfl|rfl|rfl|rfl|rfl|rfl|rfl|rfl<;>simp_all
    · rw [if_neg (by omega),if_neg (by omega),if_neg (by omega),if_neg (by omega)] at hz;exact absurd hz (by decide)
   clear HN4 hsg;rcases hk4 with rfl|rfl|rfl|rfl
   · have HE2:=aA (show res=decide (n / 256=0) from HE.out);have hks:aP ((6:Nat):Int)=1:=by decide
     rw [hks];clear HE hks;by_cases hlt:n<256
     · have HF:=aA (show res=true by rw [HE2.out];exact fO (by omega));have g:(n:Int)<256:=by omega
       clear HE2;go_wp2;go_ret;exact ⟨bZ HF.out.symm,HB1.out⟩
     · have HF:=aA (show res=false by rw [HE2.out];exact iB (by omega));have g:¬(n:Int)<256:=by omega
       clear HE2;go_wp2;go_ret;exact ⟨bZ ((iB (Int.not_lt.2 g)).trans HF.out.symm),HB1.out⟩
   · have HE2:=aA (show res=decide (n / 65536=0) from HE.out);have hks:aP ((7:Nat):Int)=2:=by decide
     rw [hks];clear HE hks;by_cases hlt:n<65536
     · have HF:=aA (show res=true by rw [HE2.out];exact fO (by omega));have g:(n:Int)<65536:=by omega
       clear HE2;go_wp2;go_ret;exact ⟨bZ HF.out.symm,HB1.out⟩
     · have HF:=aA (show res=false by rw [HE2.out];exact iB (by omega));have g:¬(n:Int)<65536:=by omega
       clear HE2;go_wp2;go_ret;exact ⟨bZ ((iB (Int.not_lt.2 g)).trans HF.out.symm),HB1.out⟩
   · have HE2:=aA (show res=decide (n / 4294967296=0) from HE.out);have hks:aP ((8:Nat):Int)=4:=by decide
     rw [hks];clear HE hks;by_cases hlt:n<4294967296
     · have HF:=aA (show res=true by rw [HE2.out];exact fO (by omega));have g:(n:Int)<4294967296:=by omega
       clear HE2;go_wp2;go_ret;exact ⟨bZ HF.out.symm,HB1.out⟩
     · have HF:=aA (show res=false by rw [HE2.out];exact iB (by omega));have g:¬(n:Int)<4294967296:=by omega
       clear HE2;go_wp2;go_ret;exact ⟨bZ ((iB (Int.not_lt.2 g)).trans HF.out.symm),HB1.out⟩
   · have HF:=aA (show res=true by rw [show res=decide (n / 18446744073709551616=0) from HE.out];exact fO (by omega));have hks:aP ((9:Nat):Int)=8:=by decide
     rw [hks];clear HE hks;go_wp2;go_ret;exact ⟨bZ HF.out.symm,HB1.out⟩
 · have HE:=aA (HN4.out.trans (bG hsg));clear HN4 hsg;go_wp2_with fail;refine (iA n (aP k) _ (by omega) (by omega)).mono ?_;rintro e W2 ⟨rfl,rfl⟩;by_cases hq:cG n (aP k)=n
   · have HF:=aA (show res=true by rw [HE.out];exact fO hq);have t:(cG n (aP k)==(n:Int))=true:=beq_iff_eq.2 hq;generalize cG n (aP k)=z at *;clear HE hq;go_wp2;go_ret;exact ⟨bZ HF.out.symm,HB1.out⟩
   · have HF:=aA (show res=false by rw [HE.out];exact iB hq);have t:(cG n (aP k)==(n:Int))=false:=beq_eq_false_iff_ne.2 hq;generalize cG n (aP k)=z at *;clear HE hq;go_wp2;go_ret;exact ⟨bZ HF.out.symm,HB1.out⟩
def qC (es:List aX)(ref:Nat):Nat:=(es.getD ref ⟨⟨#[]⟩,[]⟩).names.length
structure uO (es:List aX)(kind ref:Nat):Prop where
 lo:1≤kind
 hi:kind≤10
 en:kind=10→ref<es.length∧1≤qC es ref
theorem tA (M m:Int)(hM:M=128∨M=32768∨M=2147483648)(h0:0≤m)(h1:m<2 * M):oU M (oU M m).toNat=(oU M m).toNat:=by
 unfold oU;rcases hM with rfl|rfl|rfl
 all_goals
  rw [Int.emod_eq_of_lt h0 h1];split
  · rw [Int.toNat_of_nonneg h0,Int.emod_eq_of_lt h0 h1];split<;>omega
  · rw [Int.toNat_of_nonneg (by omega)];split<;>omega
theorem nI (es:List aX)(k:Nat)(ref:Int)(x:Nat)(h1:cK k 0=true)(h2:k≠1)(h3:k≠10)(h4:eT k=true):dV es k ref 0 x=decide (cG x (aP k)=x):=by unfold dV;rw [if_neg (by rw [h1];decide),if_neg h2,if_neg h3,bG h4]
theorem tY {es:List aX}{kind ref n:Nat}(h:uO es kind ref)(hn:n≤18446744073709551615):dV es kind ref 0 (gM (qC es ref) kind n)=true:=by
 obtain ⟨h1,h2,h3⟩:=h;have hk:kind=1∨kind=2∨kind=3∨kind=4∨kind=5∨kind=6∨kind=7∨kind=8∨kind=9∨kind=10:=by omega
 obtain ⟨p1,p2,p3,p4,p5,p6,p7,p8⟩:=pR (qC es ref) n;rcases hk with rfl|rfl|rfl|rfl|rfl|rfl|rfl|rfl|rfl|rfl
 · show decide (n % 2≤1)=true;exact fO (by omega)
 · rw [p1];have hs:∀ z,cG z 1=oU 128 z:=fun z=>by unfold cG;simp
   have hm:(0:Int)≤(n % 256:Nat)∧((n % 256:Nat):Int)<2 * 128:=by omega
   rw [hs];generalize ((n % 256:Nat):Int)=m at *;have hkp:=tA 128 m (.inl rfl) hm.1 hm.2;generalize (oU 128 m).toNat=x at *;rw [nI es 2 ref x (by decide) (by decide) (by decide) (by decide),show aP ((2:Nat):Int)=1 by decide,hs];exact fO hkp
 · rw [p2];have hs:∀ z,cG z 2=oU 32768 z:=fun z=>by unfold cG;simp
   have hm:(0:Int)≤(n % 65536:Nat)∧((n % 65536:Nat):Int)<2 * 32768:=by omega
   rw [hs];generalize ((n % 65536:Nat):Int)=m at *;have hkp:=tA 32768 m (.inr (.inl rfl)) hm.1 hm.2;generalize (oU 32768 m).toNat=x at *;rw [nI es 3 ref x (by decide) (by decide) (by decide) (by decide),show aP ((3:Nat):Int)=2 by decide,hs];exact fO hkp
 · rw [p3];have hs:∀ z,cG z 4=oU 2147483648 z:=fun z=>by unfold cG;simp
   have hm:(0:Int)≤(n % 4294967296:Nat)∧((n % 4294967296:Nat):Int)<2 * 2147483648:=by omega
   rw [hs];generalize ((n % 4294967296:Nat):Int)=m at *;have hkp:=tA 2147483648 m (.inr (.inr rfl)) hm.1 hm.2;generalize (oU 2147483648 m).toNat=x at *;rw [nI es 4 ref x (by decide) (by decide) (by decide) (by decide),show aP ((4:Nat):Int)=4 by decide,hs];exact fO hkp
 · show decide (cG _ 8=_)=true;exact fO (oS _ 8 (by decide) (by decide) (by decide))
 · rw [p5];show decide ((n % 256) / 256=0)=true;exact fO (by omega)
 · rw [p6];show decide ((n % 65536) / 65536=0)=true;exact fO (by omega)
 · rw [p7];show decide ((n % 4294967296) / 4294967296=0)=true;exact fO (by omega)
 · rw [p8];show decide (n / 18446744073709551616=0)=true;exact fO (by omega)
 · obtain ⟨h4,h5⟩:=h3 rfl;show (decide (0≤(ref:Int)∧(ref:Int)<es.length)&&decide (n % qC es ref<(es.getD (ref:Int).toNat ⟨⟨#[]⟩,[]⟩).names.length))=true;rw [fO ⟨by omega,by omega⟩,lN];exact fO (Nat.mod_lt _ h5)
end
def wJ (w:World)(b:Nat)(left:Int)(out:Bool):Prop:=
 w.cell? ⟨b,0,none⟩=some (.int .i64 left)∧w.cell? ⟨b,1,none⟩=some (.bool out)∧w.frozen? ⟨b,0,none⟩=false∧w.frozen? ⟨b,1,none⟩=false
def lS (n:Int):Int:=if 0≤n then n else 0
theorem aBC (n:Int)(w:World) :
  Calls Tryd.prog 18 #[.int .i64 n] w fun e w'=>e=.returned (.pointer (some ⟨w.heap.size,0,none⟩))∧w'=w.alloc (.cells #[.int .i64 (lS n),.bool false] 117):=by
 by_cases h:0≤n
 · rw [show lS n=n from bG h];go_enter Tryd.func18,Tryd.ntmps18;go_wp2;go_ret;first|exact ⟨rfl,rfl⟩|(rw [show max n 0=n by omega];exact ⟨rfl,rfl⟩)|(rw [show max n 0=0 by omega];exact ⟨rfl,rfl⟩)
 · rw [show lS n=0 from if_neg h];go_enter Tryd.func18,Tryd.ntmps18;go_wp2;go_ret;first|exact ⟨rfl,rfl⟩|(rw [show max n 0=n by omega];exact ⟨rfl,rfl⟩)|(rw [show max n 0=0 by omega];exact ⟨rfl,rfl⟩)
theorem aDV (b:Nat)(left n:Int)(w:World)(hm:wJ w b left false)(h0:0≤n)(h1:n≤left)(h2:left≤9223372036854775807) :
  Calls Tryd.prog 132 #[.pointer (some ⟨b,0,none⟩),.int .i64 n] w fun e w'=>e=.returned (.bool true)∧w'=w.setCell ⟨b,0,none⟩ (.int .i64 (left-n)):=by
 obtain ⟨c0,c1,f0,f1⟩:=hm;go_enter Tryd.func132,Tryd.ntmps132;go_wp2;go_ret;exact ⟨rfl,rfl⟩
theorem aCA (b:Nat)(left n:Int)(w:World)(hm:wJ w b left false)(h0:0≤n)(h1:left<n) :
  Calls Tryd.prog 132 #[.pointer (some ⟨b,0,none⟩),.int .i64 n] w fun e w'=>e=.returned (.bool false)∧w'=(w.setCell ⟨b,0,none⟩ (.int .i64 0)).setCell ⟨b,1,none⟩ (.bool true):=by
 obtain ⟨c0,c1,f0,f1⟩:=hm;go_enter Tryd.func132,Tryd.ntmps132;go_wp2;go_ret;exact ⟨rfl,rfl⟩
theorem take_nil (n:Int)(w:World) :
  Calls Tryd.prog 132 #[.pointer none,.int .i64 n] w fun e w'=>e=.returned (.bool false)∧w=w':=by
 go_enter Tryd.func132,Tryd.ntmps132;go_wp2;go_ret;exact ⟨rfl,rfl⟩
structure Exw (R S B:Nat)(w w':World):Prop where
 os:w'.os=w.os
 tape:w'.tape=w.tape
 output:w'.output=w.output
 size:w.heap.size≤w'.heap.size
 block:∀ k,k<B→k≠R→k≠S→w'.heap[k]?=w.heap[k]?
theorem Exw.refl (R S B:Nat)(w:World):Exw R S B w w:=⟨rfl,rfl,rfl,Nat.le_refl _,fun _ _ _ _=>rfl⟩
theorem Exw.trans {R S B:Nat}{a b c:World}(h:Exw R S B a b)(k:Exw R S B b c):Exw R S B a c:=
 ⟨k.os.trans h.os,k.tape.trans h.tape,k.output.trans h.output,eM h.size k.size,fun i hi h1 h2=>(k.block i hi h1 h2).trans (h.block i hi h1 h2)⟩
theorem Exw.mono {R S B B':Nat}{w w':World}(h:Exw R S B w w')(hB:B'≤B):Exw R S B' w w':=⟨h.os,h.tape,h.output,h.size,fun k hk h1 h2=>h.block k (Nat.lt_of_lt_of_le hk hB) h1 h2⟩
theorem Exw.of_below {R S B:Nat}{w w':World}(h:Below B w w'):Exw R S B w w':=⟨h.os,h.tape,h.output,h.size,fun k hk _ _=>h.block k hk⟩
theorem Exw.then {R S:Nat}{a b c:World}(h:Exw R S a.heap.size a b)(k:Exw R S b.heap.size b c):Exw R S a.heap.size a c:=h.trans (k.mono h.size)
theorem Exw.bel {R S:Nat}{a b c:World}(h:Exw R S a.heap.size a b)(k:Below b.heap.size b c):Exw R S a.heap.size a c:=h.then (.of_below k)
theorem Exw.after {R S:Nat}{a b c:World}(h:Below a.heap.size a b)(k:Exw R S b.heap.size b c):Exw R S a.heap.size a c:=(Exw.of_below h).then k
theorem Exw.setCell {R S B:Nat}{a w:World}(h:Exw R S B a w){p:Addr}(hp:p.block=R∨p.block=S∨B≤p.block)(u:Value):Exw R S B a (w.setCell p u):=
 ⟨h.os,h.tape,h.output,by rw [show (w.setCell p u).heap.size=w.heap.size by simp [World.setCell]];exact h.size,fun k hk h1 h2=>(oG _ _ _ _ (by omega)).trans (h.block k hk h1 h2)⟩
theorem Exw.drew {R S B:Nat}{a w:World}(h:Exw R S B a w):Exw R S B a w.drew:=⟨h.os,h.tape,h.output,h.size,h.block⟩
theorem Exw.drewN {R S B:Nat}{a w:World}(h:Exw R S B a w)(n:Nat):Exw R S B a (w.drewN n):=h.trans ⟨rfl,rfl,rfl,Nat.le_refl _,fun _ _ _ _=>rfl⟩
theorem Exw.cell {R S B:Nat}{w w':World}(h:Exw R S B w w'){p:Addr}(hp:p.block<B)(h1:p.block≠R)(h2:p.block≠S):w'.cell? p=w.cell? p:=World.cell?_of_block (w:=w) (h.block p.block hp h1 h2)
theorem Exw.below {R S B:Nat}{w w':World}(h:Exw R S B w w')(hR:B≤R)(hS:B≤S):Below B w w':=⟨h.os,h.tape,h.output,h.size,fun k hk=>h.block k hk (by omega) (by omega)⟩
theorem bO {R S:Nat}{w W:World}(h:Exw R S w.heap.size w W){p:Addr}{v:Value}(hp:w.cell? p=some v)(h1:p.block≠R)(h2:p.block≠S):W.cell? p=some v:=(h.cell (cP hp) h1 h2).trans hp
theorem aL {R S B g:Nat}{w W:World}{o:Obj}(h:w.heap[g]?=some o)(hb:Exw R S B w W)(hg:g<B)(h1:g≠R)(h2:g≠S):W.heap[g]?=some o:=(hb.block g hg h1 h2).trans h
theorem Exw.ownsRow {R S:Nat}{w w':World}(h:Exw R S w.heap.size w w'){base:Nat}{e:TypeId}{size:Nat}{v:Value}{n:Nat}{xs:List Value}(ho:w.ownsRow base e size v n xs)(hR:v.ownBlock≠some R)(hS:v.ownBlock≠some S):w'.ownsRow base e size v n xs:=by
 obtain ⟨hl,h'⟩:=ho;refine ⟨hl,?_⟩;rcases h' with h1|⟨g,cap,cur,hv,hb,hg,hrest⟩
 · exact .inl h1
 · subst hv;exact .inr ⟨g,cap,cur,rfl,hb,aL hg h (aD hg) (fun e=>hR (by rw [e];rfl)) (fun e=>hS (by rw [e];rfl)),hrest⟩
end Go.Proofs.YtpbaaiilfkacnaaDoor
