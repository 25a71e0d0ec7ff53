/-
  Package flatread: is a struct right. Conditions: those that each theorem names.
-/
import Derived.Test.YtpbaaiilfkacnaaDoorPkQ27
namespace Go.Proofs.YtpbaaiilfkacnaaDoor
open Go.ChangeShapes Go.WideShapes Go.ChangeAt Go.RowKit Go.Shelf
set_option maxRecDepth 100000
set_option maxHeartbeats 16000000
def aGf (base:Nat)(w:World)(m:Nat)(bp:Option Addr)(bc:Nat)(sv ev:Value)(zs:List Int)(ss:List (bK × Value))(es:List aX)(fs:List (List dT × Value))(ns:List Nat)(wk mt B:Nat)(F:Nat→Int→Option (PV × Int))(left left2 ml:Int)(n:Nat)(xc:Array Value)(y:Value)(wr:World):Prop:=
 ∃ (j:Nat) (vs:List PV) (l1 ml1:Int),j≤n∧y=.int .i64 j∧eB F left2 j=some (vs,l1)∧(0≤l1∧l1≤left)∧(0≤ml1∧ml1≤ml)∧(3 * left≤ml→3 * l1≤ml1)∧RCtx base wr m bp bc sv ev zs ss es fs ns wk mt B l1 ml1∧Exw wk mt w.heap.size w wr∧wr.heap[w.heap.size]?=some (.cells xc 142 (0,0))
theorem wU {ss:List (bK × Value)}{r:Nat}(h:r<ss.length):(kJ (aG ss) r).fields=(cR ss[r].1).fields:=by unfold kJ aG;rw [lN,List.getD,yG,List.getElem?_map,List.getElem?_map,iO h];rfl
theorem aFk {ss:List (bK × Value)}{fs:List (List dT × Value)}(hfs:fs.map Prod.fst=(ss.map fun q=>(cR q.1).fields)){r:Nat}(h:r<ss.length):∃ hr:r<fs.length,(fs[r]'hr).1=(kJ (aG ss) r).fields:=by
 have hl:=congrArg List.length hfs;rw [List.length_map,List.length_map] at hl;have hr:r<fs.length:=by omega
 refine ⟨hr,?_⟩;rw [wU h];have h1:=congrArg (fun l=>l[r]?) hfs;simp only [List.getElem?_map,List.getElem?_eq_getElem hr,List.getElem?_eq_getElem h] at h1;simpa using h1
theorem mM (room:Nat)(hroom:room≤12)(hnx:∀ q,room=q+1→tZ q):oA room:=by
 constructor;intro base w m bp bc sv ev zs ss es fs ns wk mt B left ml h r t p hr ht hp;have hzb:=h.msg.msg.bytes.1;have htf:=vI hzb ht;have hb:=(bH w.heap.size w).alloc bD (.cells #[.pointer (some ⟨m,0,none⟩),.int .i64 r,.int .i64 p,.int .i64 t.own,.int .i64 t.la,.int .i64 t.size] 142);have HB:=aA hb;have HC:=aA (h.below hb);have HX:=aA (cN w (.cells #[.pointer (some ⟨m,0,none⟩),.int .i64 r,.int .i64 p,.int .i64 t.own,.int .i64 t.la,.int .i64 t.size] 142));have HKW:Hid (wk<w.heap.size∧mt<w.heap.size):=aA ⟨aD h.st.walk,aD h.st.meter⟩;have HWS:Hid (w.heap.size<(w.alloc (.cells #[.pointer (some ⟨m,0,none⟩),.int .i64 r,.int .i64 p,.int .i64 t.own,.int .i64 t.la,.int .i64 t.size] 142)).heap.size):=aA (aD HX.out);obtain ⟨hrf,hxs⟩:=aFk h.msg.structs hr;have hsm:=h.sch.2 _ (jK hr)
 obtain ⟨xs,hxx⟩:∃ xs,(kJ (aG ss) r).fields=xs:=⟨_,rfl⟩;have hxm:xs=ss[r].1.fields.map cF:=by rw [←hxx,wU hr];rfl
 have hn16:xs.length≤16:=by rw [hxm,List.length_map];exact hsm.1
 have HTY:Hid (∀ j (hj:j<xs.length),∃ (k rr l d:Nat) (nm:ByteArray),xs[j]=⟨nm,k,rr,l,d⟩∧oN ss.length es k rr l):=aA (fun j hj=>by
  have hj2:j<ss[r].1.fields.length:=by rw [hxm,List.length_map] at hj;exact hj
  have h1:=hsm.2 _ (jK hj2);refine ⟨ss[r].1.fields[j].kind,ss[r].1.fields[j].ref,ss[r].1.fields[j].lists,ss[r].1.fields[j].dflt,ss[r].1.fields[j].name,?_,h1.1⟩;simp only [hxm,List.getElem_map];rfl)
 obtain ⟨P,hP⟩:∃ P,gG (iM (aG ss) zs (bL (aG ss) es zs room) r p t left) wk m mt left ml w=P:=⟨_,rfl⟩;rw [hP];have HP0:=aA hP.symm;rw [hxx] at hxs;have hfrow:=h.msg.msg.fields _ (jK hrf);obtain ⟨fa,fc,hf⟩:=aJ hfrow;have HFF:=aA hf;have HXS:=aA hxs;have HRF:=aA hrf;have HFA:=aA (rS _ (h.below hb).msg.msg r);have HXX:=aA hxx;have HHL:=aA h.hl;have HML:=aA h.hml;have HTF:=aA htf;have HPB:=aA hp;unfold jT;clear hP hb h hsm hxm hxx hfrow hf hr hp;have hown:4≤t.own∧t.own<65536:=⟨htf.2.2.2.1,htf.2.2.2.2.1⟩;have hsz:4≤t.size∧t.size<65536:=⟨htf.2.1,htf.2.2.1⟩;clear htf;rcases Nat.eq_zero_or_pos room with hr0|hr0
 · subst hr0;have HEND:Hid (∀ W,Below w.heap.size w W→WState W wk m mt false left ml false→P (.returned (.bool false)) W):=aA (fun W hB hs=>by rw [HP0.out];exact bQ hs (Exw.of_below hB) rfl);go_enter Tryd.func85,Tryd.ntmps85;go_upto_region 1 with (fail);generalize w.alloc (.cells #[.pointer (some ⟨m,0,none⟩),.int .i64 r,.int .i64 p,.int .i64 t.own,.int .i64 t.la,.int .i64 t.size] 142)=W0 at *;obtain ⟨_,s1,s2,s3,s4,s5,s6⟩:=bB HX.out;go_wp2_with fail;refine HFA.out.mono ?_;rintro e _ ⟨hpost,rfl⟩;obtain ⟨v,rfl⟩:∃ v,e=.returned v:=by
    rcases hpost with ⟨_,he⟩|⟨_,_,_,he⟩
    · exact ⟨_,he⟩
    · exact ⟨_,he⟩
   clear hpost;go_wp2;exact HEND.out _ HB.out HC.out.st
 obtain ⟨q,hq⟩:∃ q,room=q+1:=⟨room-1,by omega⟩;have HNX:=aA (hnx q hq);have HP:Hid (P=gG (if left-(t.size+t.own)<0 then none else match eB (jO zs (bV (aG ss) es zs q) xs p t) (left-(t.size+t.own)) xs.length with|none=>none|some (ks,l)=>some (.mk 0 [] ks true,l)) wk m mt left ml w):=aA (by rw [HP0.out,←HXX.out,hq];rfl);clear hnx HP0 hr0;obtain ⟨F,hF⟩:∃ F,jO zs (bV (aG ss) es zs q) xs p t=F:=⟨_,rfl⟩;rw [hF] at HP;have HF:=aA hF;clear hF;obtain ⟨S,hS⟩:∃ S,t.size+t.own=S:=⟨_,rfl⟩;rw [hS] at HP;have hS8:8≤S∧S<131072:=by omega
 have hws:IntKind.i64.wrap (t.size+t.own)=S:=by rw [hS];exact cU S
 clear hS;have hrm:((room:Int)==0)=false:=by simp;omega
 have hrq:(room:Int)-1=(q:Int):=by omega
 have hrq2:IntKind.i64.wrap (q:Int)=(q:Int):=cU _;clear hq;have hwn:=cU (1+(xs.length:Int));go_enter Tryd.func85,Tryd.ntmps85;go_upto_region 1 with (fail);generalize w.alloc (.cells #[.pointer (some ⟨m,0,none⟩),.int .i64 r,.int .i64 p,.int .i64 t.own,.int .i64 t.la,.int .i64 t.size] 142)=W0 at *;obtain ⟨_,s1,s2,s3,s4,s5,s6⟩:=bB HX.out;go_wp2_with fail;refine HFA.out.mono ?_;rintro e _ ⟨hpost,rfl⟩;rcases hpost with ⟨hno,rfl⟩|⟨i',hi',hii,rfl⟩
 · exact absurd ⟨by omega,by have:=HRF.out;omega⟩ hno
 obtain rfl:r=i':=by omega
 rw [HFF.out,HXS.out];clear hii;have HRE:=aA (iT W0 HC.out.st S (by have:=HHL.out;omega));obtain ⟨l2,hl2⟩:∃ l2,left-S=l2:=⟨_,rfl⟩;rw [hl2] at HRE HP;have HL2:=aA hl2;clear hl2;go_wp2_with fail;refine HRE.out.mono ?_;rintro e W3 ⟨rfl,hw3,hx3⟩;have HX3:=aA ((Exw.of_below (R:=wk) (S:=mt) HB.out).trans (hx3.mono HB.out.size));have HW3:=aA hw3;have HK3:=aA (aL HX.out hx3 (aD HX.out) (by have:=HKW.out;omega) (by have:=HKW.out;omega));have HXX3:=aA hx3;clear hw3 hx3 s1 s2 s3 s4 s5 s6 HRE;obtain ⟨_,s1,s2,s3,s4,s5,s6⟩:=bB HK3.out;by_cases hl3:0≤l2
 case neg =>
  rw [iB hl3];have HEND:Hid (P (.returned (.bool false)) W3):=aA (by rw [HP.out];exact bQ HW3.out HX3.out (by rw [bG (by omega)]));go_wp2;exact HEND.out
 rw [fO hl3];have HP2:Hid (P=gG (match eB F l2 xs.length with|none=>none|some (ks,l)=>some (.mk 0 [] ks true,l)) wk m mt left ml w):=aA (by rw [HP.out,if_neg (by omega)]);clear HP;by_cases hpay:1+(xs.length:Int)≤ml
 case neg =>
  have HPY:=aA (nY W3 HW3.out (1+(xs.length:Int)) (by omega) (by omega));go_wp2_with fail;refine HPY.out.mono ?_;rintro e W4 ⟨rfl,hw4,hx4⟩;have HEND:Hid (P (.returned (.bool false)) W4):=aA (by rw [HP2.out];exact eZ hw4 (HX3.out.trans (hx4.mono HX3.out.size)) (by have:=HL2.out;omega));clear hw4 hx4 s1 s2 s3 s4 s5 s6;go_wp2;exact HEND.out
 have HPY:=aA (lT W3 HW3.out (1+(xs.length:Int)) (by omega) (by omega) (by have:=HML.out;omega));go_wp2_with fail;refine HPY.out.mono ?_;rintro e W4 ⟨rfl,hw4,hx4⟩;have HX4:=aA (HX3.out.trans (hx4.mono HX3.out.size));have HK4:=aA (aL HK3.out hx4 (aD HK3.out) (by have:=HKW.out;omega) (by have:=HKW.out;omega));have HC4:=aA (HC.out.exw (l':=l2) (ml':=ml-(1+(xs.length:Int))) (HXX3.out.trans (hx4.mono HXX3.out.size)) hw4 (by have:=HL2.out;omega) (by omega));have HST:Hid (aGf base w m bp bc sv ev zs ss es fs ns wk mt B F left l2 ml xs.length #[.pointer (some ⟨m,0,none⟩),.int .i64 r,.int .i64 p,.int .i64 t.own,.int .i64 t.la,.int .i64 t.size] (.int .i64 ((0:Nat):Int)) W4):=aA ⟨0,[],l2,ml-(1+(xs.length:Int)),Nat.zero_le _,rfl,rfl,by have:=HL2.out;omega,by omega,by have:=HL2.out;omega,HC4.out,HX4.out,HK4.out⟩;clear hw4 hx4 s1 s2 s3 s4 s5 s6 HPY HX4 HK4 HC4 HXX3 HK3 HW3 HX3 HX HB HC HFA
 go_wp2_with fail;go_loopw [40] (fun y wr=>aGf base w m bp bc sv ev zs ss es fs ns wk mt B F left l2 ml xs.length #[.pointer (some ⟨m,0,none⟩),.int .i64 r,.int .i64 p,.int .i64 t.own,.int .i64 t.la,.int .i64 t.size] y wr) (fun y _=>xs.length-(intOf y).toNat)
 case atStart=>exact HST.out
 case round =>
  obtain ⟨j,vs,l1,ml1,hj,rfl,hseq,hl1,hml1,h3,hcx,hx,hkb⟩:=hrel;have HSEQ:=aA hseq;have HCX:=aA hcx;have HXW:=aA hx;have HKB:=aA hkb;have H3:=aA h3;clear hseq hcx hx hkb h3;by_cases hjl:j<xs.length
  case neg =>
   obtain rfl:j=xs.length:=by omega
   have HEND:Hid (P (.returned (.bool true)) wr):=aA (by rw [HP2.out,HSEQ.out];exact iU HCX.out.st HXW.out rfl hl1.1 hl1.2 hml1.1 hml1.2 H3.out);clear hjl;go_wp2;exact HEND.out
  have hji:(j:Int)<(xs.length:Int):=by omega
  have hji0:(0:Int)≤(j:Int):=by omega
  obtain ⟨k,rr,l,d,nm,hxj,hty⟩:=HTY.out j hjl;have hfrow:=HCX.out.msg.msg.fields _ (jK HRF.out);rw [HFF.out,HXS.out] at hfrow;obtain ⟨g,cc,hv,hcc,hgl,hcell⟩:=eP (l:=xs) qK 5 (fun _=>rfl) hfrow j hjl;obtain ⟨rfl,rfl⟩:=dG hv;rw [hxj] at hcell;have x0:wr.cell? ⟨g,j * 5,none⟩=some (.int .u8 k):=hcell 0 (by omega);have x1:wr.cell? ⟨g,j * 5+1,none⟩=some (.int .i64 rr):=hcell 1 (by omega);have x2:wr.cell? ⟨g,j * 5+2,none⟩=some (.int .i64 l):=hcell 2 (by omega);have x3:wr.cell? ⟨g,j * 5+3,none⟩=some (.int .i64 (gK k l)):=hcell 3 (by omega);have x4:wr.cell? ⟨g,j * 5+4,none⟩=some (.int .u64 d):=hcell 4 (by omega);have HFJ:Hid (F j l1=if eC zs t j=0 then some (dY d,l1) else if eC zs t j<4∨t.own<eC zs t j+gK k l then none else bV (aG ss) es zs q k rr l (p+eC zs t j) l1):=aA (by rw [←HF.out];unfold jO;rw [iO hjl,hxj])
  obtain ⟨tb,htb⟩:∃ tb,decide (eC zs t j≠0)=tb:=⟨_,rfl⟩;have HSK:Hid (∀ W,Below wr.heap.size wr W→Calls Tryd.prog 113 #[jT m r t p,.int .i64 j,.int .i64 (aT k l:Nat)] W fun e w'=>e=.returned (dD k rr l (p+eC zs t j) d tb)∧Below W.heap.size W w'):=aA (fun W hW=>by have h:=vW W (HCX.out.below hW).msg.msg r HRF.out t p HPB.out j (aT k l) (by rw [HXS.out];exact hjl) (by omega) HTF.out.1 ⟨nm,k,rr,l,d⟩ (by simp only [HXS.out];exact hxj) rfl;rw [htb] at h;exact h);have hoz:0≤eC zs t j∧eC zs t j<65536:=by
   unfold eC;split
   · exact mU zs _ hzb
   · omega
  have HTYP:=aA hty;have HINL:Hid (1≤gK k l∧gK k l≤8):=aA (by
   unfold gK;split
   · rename_i hnt
     unfold cK at hnt;rw [Bool.and_eq_true,decide_eq_true_iff,decide_eq_true_iff] at hnt;obtain ⟨s,h1,h2⟩:=kQ hnt.2;omega
   · omega)
  have HIN:Hid (4≤eC zs t j→eC zs t j+gK k l≤t.own→aT k l=1→cV (aH zs) (p+eC zs t j) (aP k)=true):=aA (fun h1 h2 h3=>by
   have h4:=(pP k l).1 h3;have h5:gK k l=aP k:=by unfold gK;rw [bG h4]
   have h6:=aW.1 HTF.out.2.2.2.2.2;have h7:=HINL.out;rw [h5] at h2 h7;exact aW.2 (by omega))
  unfold jT dD at HSK;have HIL:Hid (gK k l=gK k l):=aA rfl;obtain ⟨ic,hic⟩:∃ ic,gK k l=ic:=⟨_,rfl⟩;rw [hic] at x3 HFJ HINL HIN;obtain ⟨oz,hozz⟩:∃ oz,eC zs t j=oz:=⟨_,rfl⟩;simp only [hozz] at HFJ HSK hoz HIN;rw [hozz] at htb;have HTB:=aA htb;clear hcell hv hxj hty hfrow HIL hic hozz htb;have hw1:IntKind.i64.wrap (p+oz-p)=oz:=by rw [show p+oz-p=oz by omega];exact cU oz
  go_upto_region 7 with (fail);have hba:Below wr.heap.size wr (wr.alloc (.cells #[.int .u8 k,.int .i64 rr,.int .i64 l,.int .i64 ic,.int .u64 d] 180)):=(bH _ _).alloc bD _;have HFB:=aA (cN wr (.cells #[.int .u8 k,.int .i64 rr,.int .i64 l,.int .i64 ic,.int .u64 d] 180));have HBA:=aA hba;have HC5:=aA (HCX.out.below hba);have HK5:=aA (aE HKB.out hba (aD HKB.out));clear x0 x1 x2 x3 x4 hba;generalize wr.alloc (.cells #[.int .u8 k,.int .i64 rr,.int .i64 l,.int .i64 ic,.int .u64 d] 180)=W5 at *;have HFS:Hid (wr.heap.size<W5.heap.size):=aA (aD HFB.out);obtain ⟨_,s1,s2,s3,s4,s5,s6⟩:=bB HK5.out;obtain ⟨_,y0,y1,y2,y3,y4,_⟩:=lL HFB.out;refine gL ?_;refine aGb s1 s2 s3 s4 s5 s6 y0 y1 y2 y3 y4 ?_;intro hS;refine aK 0 (.agg #[.pointer (some ⟨m,0,none⟩),.int .i64 r,.int .i64 p,.int .i64 t.own,.int .i64 t.la,.int .i64 t.size]) ?_
  simp only [td];refine aK 1 (.int .i64 j) ?_;simp only [td];refine aK 2 (.pointer (some ⟨wr.heap.size,0,none⟩)) ?_;simp only [td];refine aK 3 (.agg #[.int .u8 k,.int .i64 rr,.int .i64 l]) ?_;simp only [td];refine wpAnyH_ready (rs:=[4,6]) (by kernel_rfl) (by decide) (AllReadyH.cons rfl (fun K hK=>?_) (AllReadyH.cons rfl (fun K hK=>?_) lY))
  · rw [bG (by kernel_rfl)];go_simp;refine (dS k rr l W5.drew).mono ?_;rintro e V1 ⟨rfl,hb1⟩;have hv1:Below W5.heap.size W5 V1:=(bH _ W5).drew.trans hb1;have nn0:=aC hv1 s1;have nn1:=aC hv1 s2;have nn2:=aC hv1 s3;have nn3:=aC hv1 s4;have nn4:=aC hv1 s5;have nn5:=aC hv1 s6;have nn6:=aC hv1 y0;have nn7:=aC hv1 y1;have nn8:=aC hv1 y2;have nn9:=aC hv1 y3;have nn10:=aC hv1 y4;refine hK.out _ _ ⟨nn0,nn1,nn2,nn3,nn4,nn5,nn6,nn7,nn8,nn9,nn10⟩ (fun hS=>?_);clear nn0 nn1 nn2 nn3 nn4 nn5 nn6 nn7 nn8 nn9 nn10;refine wpAnyH_ready (rs:=[5,6]) (by kernel_rfl) (by decide) (AllReadyH.cons rfl (fun K hK=>?_) (AllReadyH.cons rfl (fun K hK=>?_) lY))
    · rw [bG (by kernel_rfl)];go_simp;refine (HSK.out V1 (HBA.out.trans (hv1.mono HBA.out.size))).mono ?_;rintro e V2 ⟨rfl,hb2⟩;have hv2:Below W5.heap.size W5 V2:=hv1.trans (hb2.mono hv1.size);have nn0:=aC hv2 s1;have nn1:=aC hv2 s2;have nn2:=aC hv2 s3;have nn3:=aC hv2 s4;have nn4:=aC hv2 s5;have nn5:=aC hv2 s6;have nn6:=aC hv2 y0;have nn7:=aC hv2 y1;have nn8:=aC hv2 y2;have nn9:=aC hv2 y3;have nn10:=aC hv2 y4;refine hK.out _ _ ⟨nn0,nn1,nn2,nn3,nn4,nn5,nn6,nn7,nn8,nn9,nn10⟩ (fun hS=>?_);clear nn0 nn1 nn2 nn3 nn4 nn5 nn6 nn7 nn8 nn9 nn10;refine bS 6 fun K hK=>?_;go_simp;have hv3:Below W5.heap.size W5 (V2.alloc (.cells #[.int .u8 0,.int .i64 0,.int .i64 0,.int .i64 0,.int .u64 0,.bool false] 182)):=hv2.alloc hv2.size _;have hT3:=cN V2 (.cells #[.int .u8 0,.int .i64 0,.int .i64 0,.int .i64 0,.int .u64 0,.bool false] 182);have nn0:=aC hv3 s1
      have nn1:=aC hv3 s2;have nn2:=aC hv3 s3;have nn3:=aC hv3 s4;have nn4:=aC hv3 s5;have nn5:=aC hv3 s6;have nn6:=aC hv3 y0;have nn7:=aC hv3 y1;have nn8:=aC hv3 y2;have nn9:=aC hv3 y3;have nn10:=aC hv3 y4;refine hK.out _ _ ⟨nn0,nn1,nn2,nn3,nn4,nn5,nn6,nn7,nn8,nn9,nn10⟩ (fun hS=>?_);clear nn0 nn1 nn2 nn3 nn4 nn5 nn6 nn7 nn8 nn9 nn10;generalize V2.alloc (.cells #[.int .u8 0,.int .i64 0,.int .i64 0,.int .i64 0,.int .u64 0,.bool false] 182)=V3 at *;have hthere:V3.there (V2.heap.size) 0 6:=fun i hi=>by
       have h4:i=0∨i=1∨i=2∨i=3∨i=4∨i=5:=by omega
       obtain ⟨_,v0,v1,v2,v3,v4,v5⟩:=bB hT3;rcases h4 with rfl|rfl|rfl|rfl|rfl|rfl
       · exact ⟨by rw [Nat.add_zero,v0];rfl,aB hT3 _⟩
       · exact ⟨by rw [cX,v1];rfl,aB hT3 _⟩
       · exact ⟨by rw [cX,v2];rfl,aB hT3 _⟩
       · exact ⟨by rw [cX,v3];rfl,aB hT3 _⟩
       · exact ⟨by rw [cX,v4];rfl,aB hT3 _⟩
       · exact ⟨by rw [cX,v5];rfl,aB hT3 _⟩
      refine bS 7 fun K hK=>?_;refine wp_store_mid 182 (.tmp 10) (.tmp 50) rfl (V2.heap.size) 0 #[.int .u8 k,.int .i64 rr,.int .i64 l,.int .i64 (p+oz),.int .u64 d,.bool tb] rfl rfl hthere (by kernel_rfl) (pW.2 (by intro x hx;simp at hx;rcases hx with rfl|rfl|rfl|rfl|rfl|rfl<;>rfl)) ?_;change K _ (bR V3 (V2.heap.size) (.int .u8 k) (.int .i64 rr) (.int .i64 l) (.int .i64 (p+oz)) (.int .u64 d) (.bool tb));have hTS:W5.heap.size≤V2.heap.size:=hv2.size;have hks:∀ (bb o:Nat) (cc:Value),bb<W5.heap.size→W5.cell? ⟨bb,o,none⟩=some cc→(bR V3 (V2.heap.size) (.int .u8 k) (.int .i64 rr) (.int .i64 l) (.int .i64 (p+oz)) (.int .u64 d) (.bool tb)).cell? ⟨bb,o,none⟩=some cc:=fun bb o cc hbb hcc=>gN (aC hv3 hcc) (by show bb≠_;omega)
      refine hK.out _ _ ⟨hks _ _ _ (cP s1) s1,hks _ _ _ (cP s2) s2,hks _ _ _ (cP s3) s3,hks _ _ _ (cP s4) s4,hks _ _ _ (cP s5) s5,hks _ _ _ (cP s6) s6,hks _ _ _ (cP y0) y0,hks _ _ _ (cP y1) y1,hks _ _ _ (cP y2) y2,hks _ _ _ (cP y3) y3,hks _ _ _ (cP y4) y4⟩ (fun hS=>?_);refine gA (by kernel_rfl) ?_ _;refine fI ?_;try simp only [Exit.then]
      have HE1:=aA (show (bR V3 (V2.heap.size) (.int .u8 k) (.int .i64 rr) (.int .i64 l) (.int .i64 (p+oz)) (.int .u64 d) (.bool tb)).heap[V2.heap.size]?=some (.cells #[.int .u8 k,.int .i64 rr,.int .i64 l,.int .i64 (p+oz),.int .u64 d,.bool tb] 182 (0,0)) from cT hT3 _ _ _ _ _ _);have HE2:=aA (show Below W5.heap.size W5 (bR V3 (V2.heap.size) (.int .u8 k) (.int .i64 rr) (.int .i64 l) (.int .i64 (p+oz)) (.int .u64 d) (.bool tb)) from cI hv3 hTS _ _ _ _ _ _);clear hS hks hthere s1 s2 s3 s4 s5 s6 y0 y1 y2 y3 y4 hTS;generalize bR V3 (V2.heap.size) (.int .u8 k) (.int .i64 rr) (.int .i64 l) (.int .i64 (p+oz)) (.int .u64 d) (.bool tb)=W9 at *;obtain ⟨_,q0,q1,q2,q3,q4,q5⟩:=bB HE1.out;have HC9:=aA (HC5.out.below HE2.out)
      have HX9:=aA ((HXW.out.trans ((Exw.of_below (R:=wk) (S:=mt) HBA.out).mono (by have:=HXW.out.size;omega))).trans ((Exw.of_below (R:=wk) (S:=mt) HE2.out).mono (by have:=HXW.out.size;have:=HFS.out;omega)));have HK9:=aA (aE HK5.out HE2.out (aD HK5.out));have HF9:=aA (aE HFB.out HE2.out (aD HFB.out));obtain ⟨_,s1,s2,s3,s4,s5,s6⟩:=bB HK9.out;obtain ⟨_,y0,y1,y2,y3,y4,_⟩:=lL HF9.out;by_cases hz0:oz=0
      · obtain rfl:tb=false:=HTB.out.symm.trans (iB (by simp [hz0]));have HNEW:Hid (eB F l2 (j+1)=some (vs++[dY d],l1)):=aA (by rw [bT HSEQ.out,HFJ.out,bG hz0]);clear hz0;go_wp2;go_roundw
        case rel=>exact ⟨j+1,_,l1,ml1,by omega,by go_num,HNEW.out,hl1,hml1,H3.out,HC9.out,HX9.out,HK9.out⟩
        case measure=>simp [intOf];omega
      · obtain rfl:tb=true:=HTB.out.symm.trans (fO hz0);have HHO:=aA (fun W=>pD t p oz ic W (by omega) (by have:=HINL.out;omega));unfold wO at HHO;by_cases hho:4≤oz∧oz+ic≤t.own
        case neg =>
         have HEND:Hid (∀ W,Below W9.heap.size W9 W→P (.returned (.bool false)) W):=aA (fun W hW=>by have hn:eB F l2 xs.length=none:=fD (j:=j+1) (by omega) (by rw [bT HSEQ.out,HFJ.out,if_neg hz0,bG (by omega)]);rw [HP2.out,hn];exact bQ (HC9.out.st.below hW) (HX9.out.trans ((Exw.of_below (R:=wk) (S:=mt) hW).mono HX9.out.size)) rfl);rw [iB hho] at HHO;go_wp2_with fail;refine (HHO.out _).mono ?_;rintro e W10 ⟨rfl,hb10⟩;have HE10:=aA (HEND.out W10 hb10);clear hb10 q0 q1 q2 q3 q4 q5 s1 s2 s3 s4 s5 s6 y0 y1 y2 y3 y4;go_wp2;exact HE10.out
        rw [fO hho] at HHO;have HHH:=aA hho;clear hho;go_wp2_with fail;refine (HHO.out _).mono ?_;rintro e W10 ⟨rfl,hb10⟩;have HC10:=aA (HC9.out.below hb10);have HX10:=aA (HX9.out.trans ((Exw.of_below (R:=wk) (S:=mt) hb10).mono HX9.out.size));have HK10:=aA (aE HK9.out hb10 (aD HK9.out));have HQ10:=aA (aE HE1.out hb10 (aD HE1.out));clear hb10 q0 q1 q2 q3 q4 q5 s1 s2 s3 s4 s5 s6 y0 y1 y2 y3 y4;obtain ⟨_,q0,q1,q2,q3,q4,q5⟩:=bB HQ10.out;have HKR:=aA (HNX.out.run HC10.out k rr l d (p+oz) HTYP.out (HIN.out HHH.out.1 HHH.out.2));unfold dD at HKR;go_wp2_with fail;refine HKR.out.mono ?_;rintro e W11 hp11;have HX11:=aA (HX10.out.trans (hp11.1.mono HX10.out.size));have HK11:=aA (aL HK10.out hp11.1 (aD HK10.out) (by have:=HKW.out;omega) (by have:=HKW.out;omega));have HXL:=aA hp11.1;rcases hp11.2 with ⟨v',l',ml',hres,hl',rfl,hs',hml',h3'⟩|⟨rfl,o,l',ml',mo,hs',hno,hout⟩
        · have HNEW:Hid (eB F l2 (j+1)=some (vs++[v'],l')):=aA (by rw [bT HSEQ.out,HFJ.out,if_neg hz0,if_neg (by have:=HHH.out;omega),hres]);have HC11:=aA (HC10.out.exw HXL.out hs' hl' hml');have H33:=aA h3';clear hp11 hres hs' h3' q0 q1 q2 q3 q4 q5;go_wp2;go_roundw
          case rel=>exact ⟨j+1,_,l',ml',by omega,by go_num,HNEW.out,by omega,by omega,fun h=>H33.out (H3.out h),HC11.out,HX11.out,HK11.out⟩
          case measure=>simp [intOf];omega
        · have HEND:Hid (P (.returned (.bool false)) W11):=aA (by
           rw [HP2.out];cases o with
           | false =>
            have hn:eB F l2 xs.length=none:=fD (j:=j+1) (by omega) (by rw [bT HSEQ.out,HFJ.out,if_neg hz0,if_neg (by have:=HHH.out;omega),hno rfl]);rw [hn];exact bQ hs' HX11.out rfl
           | true =>
            have h5:=hout rfl;exact eZ hs' HX11.out (by
             rcases Int.lt_or_le ml (3 * left) with h6|h6
             · exact h6
             · have:=H3.out h6;omega))
          clear hp11 hs' hno hout q0 q1 q2 q3 q4 q5;go_wp2;exact HEND.out
    · rw [bG (by kernel_rfl)];go_simp;have hv2:Below W5.heap.size W5 (V1.alloc (.cells #[.int .u8 0,.int .i64 0,.int .i64 0,.int .i64 0,.int .u64 0,.bool false] 182)):=hv1.alloc hv1.size _;have hT2:=cN V1 (.cells #[.int .u8 0,.int .i64 0,.int .i64 0,.int .i64 0,.int .u64 0,.bool false] 182);have nn0:=aC hv2 s1;have nn1:=aC hv2 s2;have nn2:=aC hv2 s3;have nn3:=aC hv2 s4;have nn4:=aC hv2 s5;have nn5:=aC hv2 s6;have nn6:=aC hv2 y0;have nn7:=aC hv2 y1;have nn8:=aC hv2 y2;have nn9:=aC hv2 y3;have nn10:=aC hv2 y4;refine hK.out _ _ ⟨nn0,nn1,nn2,nn3,nn4,nn5,nn6,nn7,nn8,nn9,nn10⟩ (fun hS=>?_);clear nn0 nn1 nn2 nn3 nn4 nn5 nn6 nn7 nn8 nn9 nn10;generalize V1.alloc (.cells #[.int .u8 0,.int .i64 0,.int .i64 0,.int .i64 0,.int .u64 0,.bool false] 182)=V2 at *;refine bS 5 fun K hK=>?_;go_simp
      refine (HSK.out V2 (HBA.out.trans (hv2.mono HBA.out.size))).mono ?_;rintro e V3 ⟨rfl,hb3⟩;have hv3:Below W5.heap.size W5 V3:=hv2.trans (hb3.mono hv2.size);have nn0:=aC hv3 s1;have nn1:=aC hv3 s2;have nn2:=aC hv3 s3;have nn3:=aC hv3 s4;have nn4:=aC hv3 s5;have nn5:=aC hv3 s6;have nn6:=aC hv3 y0;have nn7:=aC hv3 y1;have nn8:=aC hv3 y2;have nn9:=aC hv3 y3;have nn10:=aC hv3 y4;refine hK.out _ _ ⟨nn0,nn1,nn2,nn3,nn4,nn5,nn6,nn7,nn8,nn9,nn10⟩ (fun hS=>?_);clear nn0 nn1 nn2 nn3 nn4 nn5 nn6 nn7 nn8 nn9 nn10;have hT3:=aE hT2 hb3 (aD hT2);have hthere:V3.there (V1.heap.size) 0 6:=fun i hi=>by
       have h4:i=0∨i=1∨i=2∨i=3∨i=4∨i=5:=by omega
       obtain ⟨_,v0,v1,v2,v3,v4,v5⟩:=bB hT3;rcases h4 with rfl|rfl|rfl|rfl|rfl|rfl
       · exact ⟨by rw [Nat.add_zero,v0];rfl,aB hT3 _⟩
       · exact ⟨by rw [cX,v1];rfl,aB hT3 _⟩
       · exact ⟨by rw [cX,v2];rfl,aB hT3 _⟩
       · exact ⟨by rw [cX,v3];rfl,aB hT3 _⟩
       · exact ⟨by rw [cX,v4];rfl,aB hT3 _⟩
       · exact ⟨by rw [cX,v5];rfl,aB hT3 _⟩
      refine bS 7 fun K hK=>?_;refine wp_store_mid 182 (.tmp 10) (.tmp 50) rfl (V1.heap.size) 0 #[.int .u8 k,.int .i64 rr,.int .i64 l,.int .i64 (p+oz),.int .u64 d,.bool tb] rfl rfl hthere (by kernel_rfl) (pW.2 (by intro x hx;simp at hx;rcases hx with rfl|rfl|rfl|rfl|rfl|rfl<;>rfl)) ?_;change K _ (bR V3 (V1.heap.size) (.int .u8 k) (.int .i64 rr) (.int .i64 l) (.int .i64 (p+oz)) (.int .u64 d) (.bool tb));have hTS:W5.heap.size≤V1.heap.size:=hv1.size;have hks:∀ (bb o:Nat) (cc:Value),bb<W5.heap.size→W5.cell? ⟨bb,o,none⟩=some cc→(bR V3 (V1.heap.size) (.int .u8 k) (.int .i64 rr) (.int .i64 l) (.int .i64 (p+oz)) (.int .u64 d) (.bool tb)).cell? ⟨bb,o,none⟩=some cc:=fun bb o cc hbb hcc=>gN (aC hv3 hcc) (by show bb≠_;omega)
      refine hK.out _ _ ⟨hks _ _ _ (cP s1) s1,hks _ _ _ (cP s2) s2,hks _ _ _ (cP s3) s3,hks _ _ _ (cP s4) s4,hks _ _ _ (cP s5) s5,hks _ _ _ (cP s6) s6,hks _ _ _ (cP y0) y0,hks _ _ _ (cP y1) y1,hks _ _ _ (cP y2) y2,hks _ _ _ (cP y3) y3,hks _ _ _ (cP y4) y4⟩ (fun hS=>?_);refine gA (by kernel_rfl) ?_ _;refine fI ?_;try simp only [Exit.then]
      have HE1:=aA (show (bR V3 (V1.heap.size) (.int .u8 k) (.int .i64 rr) (.int .i64 l) (.int .i64 (p+oz)) (.int .u64 d) (.bool tb)).heap[V1.heap.size]?=some (.cells #[.int .u8 k,.int .i64 rr,.int .i64 l,.int .i64 (p+oz),.int .u64 d,.bool tb] 182 (0,0)) from cT hT3 _ _ _ _ _ _);have HE2:=aA (show Below W5.heap.size W5 (bR V3 (V1.heap.size) (.int .u8 k) (.int .i64 rr) (.int .i64 l) (.int .i64 (p+oz)) (.int .u64 d) (.bool tb)) from cI hv3 hTS _ _ _ _ _ _);clear hS hks hthere s1 s2 s3 s4 s5 s6 y0 y1 y2 y3 y4 hTS;generalize bR V3 (V1.heap.size) (.int .u8 k) (.int .i64 rr) (.int .i64 l) (.int .i64 (p+oz)) (.int .u64 d) (.bool tb)=W9 at *;obtain ⟨_,q0,q1,q2,q3,q4,q5⟩:=bB HE1.out;have HC9:=aA (HC5.out.below HE2.out)
      have HX9:=aA ((HXW.out.trans ((Exw.of_below (R:=wk) (S:=mt) HBA.out).mono (by have:=HXW.out.size;omega))).trans ((Exw.of_below (R:=wk) (S:=mt) HE2.out).mono (by have:=HXW.out.size;have:=HFS.out;omega)));have HK9:=aA (aE HK5.out HE2.out (aD HK5.out));have HF9:=aA (aE HFB.out HE2.out (aD HFB.out));obtain ⟨_,s1,s2,s3,s4,s5,s6⟩:=bB HK9.out;obtain ⟨_,y0,y1,y2,y3,y4,_⟩:=lL HF9.out;by_cases hz0:oz=0
      · obtain rfl:tb=false:=HTB.out.symm.trans (iB (by simp [hz0]));have HNEW:Hid (eB F l2 (j+1)=some (vs++[dY d],l1)):=aA (by rw [bT HSEQ.out,HFJ.out,bG hz0]);clear hz0;go_wp2;go_roundw
        case rel=>exact ⟨j+1,_,l1,ml1,by omega,by go_num,HNEW.out,hl1,hml1,H3.out,HC9.out,HX9.out,HK9.out⟩
        case measure=>simp [intOf];omega
      · obtain rfl:tb=true:=HTB.out.symm.trans (fO hz0);have HHO:=aA (fun W=>pD t p oz ic W (by omega) (by have:=HINL.out;omega));unfold wO at HHO;by_cases hho:4≤oz∧oz+ic≤t.own
        case neg =>
         have HEND:Hid (∀ W,Below W9.heap.size W9 W→P (.returned (.bool false)) W):=aA (fun W hW=>by have hn:eB F l2 xs.length=none:=fD (j:=j+1) (by omega) (by rw [bT HSEQ.out,HFJ.out,if_neg hz0,bG (by omega)]);rw [HP2.out,hn];exact bQ (HC9.out.st.below hW) (HX9.out.trans ((Exw.of_below (R:=wk) (S:=mt) hW).mono HX9.out.size)) rfl);rw [iB hho] at HHO;go_wp2_with fail;refine (HHO.out _).mono ?_;rintro e W10 ⟨rfl,hb10⟩;have HE10:=aA (HEND.out W10 hb10);clear hb10 q0 q1 q2 q3 q4 q5 s1 s2 s3 s4 s5 s6 y0 y1 y2 y3 y4;go_wp2;exact HE10.out
        rw [fO hho] at HHO;have HHH:=aA hho;clear hho;go_wp2_with fail;refine (HHO.out _).mono ?_;rintro e W10 ⟨rfl,hb10⟩;have HC10:=aA (HC9.out.below hb10);have HX10:=aA (HX9.out.trans ((Exw.of_below (R:=wk) (S:=mt) hb10).mono HX9.out.size));have HK10:=aA (aE HK9.out hb10 (aD HK9.out));have HQ10:=aA (aE HE1.out hb10 (aD HE1.out));clear hb10 q0 q1 q2 q3 q4 q5 s1 s2 s3 s4 s5 s6 y0 y1 y2 y3 y4;obtain ⟨_,q0,q1,q2,q3,q4,q5⟩:=bB HQ10.out;have HKR:=aA (HNX.out.run HC10.out k rr l d (p+oz) HTYP.out (HIN.out HHH.out.1 HHH.out.2));unfold dD at HKR;go_wp2_with fail;refine HKR.out.mono ?_;rintro e W11 hp11;have HX11:=aA (HX10.out.trans (hp11.1.mono HX10.out.size));have HK11:=aA (aL HK10.out hp11.1 (aD HK10.out) (by have:=HKW.out;omega) (by have:=HKW.out;omega));have HXL:=aA hp11.1;rcases hp11.2 with ⟨v',l',ml',hres,hl',rfl,hs',hml',h3'⟩|⟨rfl,o,l',ml',mo,hs',hno,hout⟩
        · have HNEW:Hid (eB F l2 (j+1)=some (vs++[v'],l')):=aA (by rw [bT HSEQ.out,HFJ.out,if_neg hz0,if_neg (by have:=HHH.out;omega),hres]);have HC11:=aA (HC10.out.exw HXL.out hs' hl' hml');have H33:=aA h3';clear hp11 hres hs' h3' q0 q1 q2 q3 q4 q5;go_wp2;go_roundw
          case rel=>exact ⟨j+1,_,l',ml',by omega,by go_num,HNEW.out,by omega,by omega,fun h=>H33.out (H3.out h),HC11.out,HX11.out,HK11.out⟩
          case measure=>simp [intOf];omega
        · have HEND:Hid (P (.returned (.bool false)) W11):=aA (by
           rw [HP2.out];cases o with
           | false =>
            have hn:eB F l2 xs.length=none:=fD (j:=j+1) (by omega) (by rw [bT HSEQ.out,HFJ.out,if_neg hz0,if_neg (by have:=HHH.out;omega),hno rfl]);rw [hn];exact bQ hs' HX11.out rfl
           | true =>
            have h5:=hout rfl;exact eZ hs' HX11.out (by
             rcases Int.lt_or_le ml (3 * left) with h6|h6
             · exact h6
             · have:=H3.out h6;omega))
          clear hp11 hs' hno hout q0 q1 q2 q3 q4 q5;go_wp2;exact HEND.out
  · rw [bG (by kernel_rfl)];go_simp;have hv1:Below W5.heap.size W5 ((W5.alloc (.cells #[.int .u8 0,.int .i64 0,.int .i64 0,.int .i64 0,.int .u64 0,.bool false] 182)).drew):=((bH _ W5).alloc bD _).drew;have hT1:((W5.alloc (.cells #[.int .u8 0,.int .i64 0,.int .i64 0,.int .i64 0,.int .u64 0,.bool false] 182)).drew).heap[W5.heap.size]?=some (.cells #[.int .u8 0,.int .i64 0,.int .i64 0,.int .i64 0,.int .u64 0,.bool false] 182 (0,0)):=cN W5 _;have nn0:=aC hv1 s1;have nn1:=aC hv1 s2;have nn2:=aC hv1 s3;have nn3:=aC hv1 s4;have nn4:=aC hv1 s5;have nn5:=aC hv1 s6;have nn6:=aC hv1 y0;have nn7:=aC hv1 y1;have nn8:=aC hv1 y2;have nn9:=aC hv1 y3;have nn10:=aC hv1 y4;refine hK.out _ _ ⟨nn0,nn1,nn2,nn3,nn4,nn5,nn6,nn7,nn8,nn9,nn10⟩ (fun hS=>?_);clear nn0 nn1 nn2 nn3 nn4 nn5 nn6 nn7 nn8 nn9 nn10
    generalize (W5.alloc (.cells #[.int .u8 0,.int .i64 0,.int .i64 0,.int .i64 0,.int .u64 0,.bool false] 182)).drew=V1 at *;refine bS 4 fun K hK=>?_;go_simp;refine (dS k rr l V1).mono ?_;rintro e V2 ⟨rfl,hb2⟩;have hv2:Below W5.heap.size W5 V2:=hv1.trans (hb2.mono hv1.size);have nn0:=aC hv2 s1;have nn1:=aC hv2 s2;have nn2:=aC hv2 s3;have nn3:=aC hv2 s4;have nn4:=aC hv2 s5;have nn5:=aC hv2 s6;have nn6:=aC hv2 y0;have nn7:=aC hv2 y1;have nn8:=aC hv2 y2;have nn9:=aC hv2 y3;have nn10:=aC hv2 y4;refine hK.out _ _ ⟨nn0,nn1,nn2,nn3,nn4,nn5,nn6,nn7,nn8,nn9,nn10⟩ (fun hS=>?_);clear nn0 nn1 nn2 nn3 nn4 nn5 nn6 nn7 nn8 nn9 nn10;refine bS 5 fun K hK=>?_;go_simp;refine (HSK.out V2 (HBA.out.trans (hv2.mono HBA.out.size))).mono ?_;rintro e V3 ⟨rfl,hb3⟩;have hv3:Below W5.heap.size W5 V3:=hv2.trans (hb3.mono hv2.size);have nn0:=aC hv3 s1;have nn1:=aC hv3 s2;have nn2:=aC hv3 s3
    have nn3:=aC hv3 s4;have nn4:=aC hv3 s5;have nn5:=aC hv3 s6;have nn6:=aC hv3 y0;have nn7:=aC hv3 y1;have nn8:=aC hv3 y2;have nn9:=aC hv3 y3;have nn10:=aC hv3 y4;refine hK.out _ _ ⟨nn0,nn1,nn2,nn3,nn4,nn5,nn6,nn7,nn8,nn9,nn10⟩ (fun hS=>?_);clear nn0 nn1 nn2 nn3 nn4 nn5 nn6 nn7 nn8 nn9 nn10;have hT3:=aE (aE hT1 hb2 (aD hT1)) hb3 (aD (aE hT1 hb2 (aD hT1)));have hthere:V3.there (W5.heap.size) 0 6:=fun i hi=>by
     have h4:i=0∨i=1∨i=2∨i=3∨i=4∨i=5:=by omega
     obtain ⟨_,v0,v1,v2,v3,v4,v5⟩:=bB hT3;rcases h4 with rfl|rfl|rfl|rfl|rfl|rfl
     · exact ⟨by rw [Nat.add_zero,v0];rfl,aB hT3 _⟩
     · exact ⟨by rw [cX,v1];rfl,aB hT3 _⟩
     · exact ⟨by rw [cX,v2];rfl,aB hT3 _⟩
     · exact ⟨by rw [cX,v3];rfl,aB hT3 _⟩
     · exact ⟨by rw [cX,v4];rfl,aB hT3 _⟩
     · exact ⟨by rw [cX,v5];rfl,aB hT3 _⟩
    refine bS 7 fun K hK=>?_;refine wp_store_mid 182 (.tmp 10) (.tmp 50) rfl (W5.heap.size) 0 #[.int .u8 k,.int .i64 rr,.int .i64 l,.int .i64 (p+oz),.int .u64 d,.bool tb] rfl rfl hthere (by kernel_rfl) (pW.2 (by intro x hx;simp at hx;rcases hx with rfl|rfl|rfl|rfl|rfl|rfl<;>rfl)) ?_;change K _ (bR V3 (W5.heap.size) (.int .u8 k) (.int .i64 rr) (.int .i64 l) (.int .i64 (p+oz)) (.int .u64 d) (.bool tb));have hTS:W5.heap.size≤W5.heap.size:=Nat.le_refl _;have hks:∀ (bb o:Nat) (cc:Value),bb<W5.heap.size→W5.cell? ⟨bb,o,none⟩=some cc→(bR V3 (W5.heap.size) (.int .u8 k) (.int .i64 rr) (.int .i64 l) (.int .i64 (p+oz)) (.int .u64 d) (.bool tb)).cell? ⟨bb,o,none⟩=some cc:=fun bb o cc hbb hcc=>gN (aC hv3 hcc) (by show bb≠_;omega)
    refine hK.out _ _ ⟨hks _ _ _ (cP s1) s1,hks _ _ _ (cP s2) s2,hks _ _ _ (cP s3) s3,hks _ _ _ (cP s4) s4,hks _ _ _ (cP s5) s5,hks _ _ _ (cP s6) s6,hks _ _ _ (cP y0) y0,hks _ _ _ (cP y1) y1,hks _ _ _ (cP y2) y2,hks _ _ _ (cP y3) y3,hks _ _ _ (cP y4) y4⟩ (fun hS=>?_);refine gA (by kernel_rfl) ?_ _;refine fI ?_;try simp only [Exit.then]
    have HE1:=aA (show (bR V3 (W5.heap.size) (.int .u8 k) (.int .i64 rr) (.int .i64 l) (.int .i64 (p+oz)) (.int .u64 d) (.bool tb)).heap[W5.heap.size]?=some (.cells #[.int .u8 k,.int .i64 rr,.int .i64 l,.int .i64 (p+oz),.int .u64 d,.bool tb] 182 (0,0)) from cT hT3 _ _ _ _ _ _);have HE2:=aA (show Below W5.heap.size W5 (bR V3 (W5.heap.size) (.int .u8 k) (.int .i64 rr) (.int .i64 l) (.int .i64 (p+oz)) (.int .u64 d) (.bool tb)) from cI hv3 hTS _ _ _ _ _ _);clear hS hks hthere s1 s2 s3 s4 s5 s6 y0 y1 y2 y3 y4 hTS;generalize bR V3 (W5.heap.size) (.int .u8 k) (.int .i64 rr) (.int .i64 l) (.int .i64 (p+oz)) (.int .u64 d) (.bool tb)=W9 at *;obtain ⟨_,q0,q1,q2,q3,q4,q5⟩:=bB HE1.out;have HC9:=aA (HC5.out.below HE2.out)
    have HX9:=aA ((HXW.out.trans ((Exw.of_below (R:=wk) (S:=mt) HBA.out).mono (by have:=HXW.out.size;omega))).trans ((Exw.of_below (R:=wk) (S:=mt) HE2.out).mono (by have:=HXW.out.size;have:=HFS.out;omega)));have HK9:=aA (aE HK5.out HE2.out (aD HK5.out));have HF9:=aA (aE HFB.out HE2.out (aD HFB.out));obtain ⟨_,s1,s2,s3,s4,s5,s6⟩:=bB HK9.out;obtain ⟨_,y0,y1,y2,y3,y4,_⟩:=lL HF9.out;by_cases hz0:oz=0
    · obtain rfl:tb=false:=HTB.out.symm.trans (iB (by simp [hz0]));have HNEW:Hid (eB F l2 (j+1)=some (vs++[dY d],l1)):=aA (by rw [bT HSEQ.out,HFJ.out,bG hz0]);clear hz0;go_wp2;go_roundw
      case rel=>exact ⟨j+1,_,l1,ml1,by omega,by go_num,HNEW.out,hl1,hml1,H3.out,HC9.out,HX9.out,HK9.out⟩
      case measure=>simp [intOf];omega
    · obtain rfl:tb=true:=HTB.out.symm.trans (fO hz0);have HHO:=aA (fun W=>pD t p oz ic W (by omega) (by have:=HINL.out;omega));unfold wO at HHO;by_cases hho:4≤oz∧oz+ic≤t.own
      case neg =>
       have HEND:Hid (∀ W,Below W9.heap.size W9 W→P (.returned (.bool false)) W):=aA (fun W hW=>by have hn:eB F l2 xs.length=none:=fD (j:=j+1) (by omega) (by rw [bT HSEQ.out,HFJ.out,if_neg hz0,bG (by omega)]);rw [HP2.out,hn];exact bQ (HC9.out.st.below hW) (HX9.out.trans ((Exw.of_below (R:=wk) (S:=mt) hW).mono HX9.out.size)) rfl);rw [iB hho] at HHO;go_wp2_with fail;refine (HHO.out _).mono ?_;rintro e W10 ⟨rfl,hb10⟩;have HE10:=aA (HEND.out W10 hb10);clear hb10 q0 q1 q2 q3 q4 q5 s1 s2 s3 s4 s5 s6 y0 y1 y2 y3 y4;go_wp2;exact HE10.out
      rw [fO hho] at HHO;have HHH:=aA hho;clear hho;go_wp2_with fail;refine (HHO.out _).mono ?_;rintro e W10 ⟨rfl,hb10⟩;have HC10:=aA (HC9.out.below hb10);have HX10:=aA (HX9.out.trans ((Exw.of_below (R:=wk) (S:=mt) hb10).mono HX9.out.size));have HK10:=aA (aE HK9.out hb10 (aD HK9.out));have HQ10:=aA (aE HE1.out hb10 (aD HE1.out));clear hb10 q0 q1 q2 q3 q4 q5 s1 s2 s3 s4 s5 s6 y0 y1 y2 y3 y4;obtain ⟨_,q0,q1,q2,q3,q4,q5⟩:=bB HQ10.out;have HKR:=aA (HNX.out.run HC10.out k rr l d (p+oz) HTYP.out (HIN.out HHH.out.1 HHH.out.2));unfold dD at HKR;go_wp2_with fail;refine HKR.out.mono ?_;rintro e W11 hp11;have HX11:=aA (HX10.out.trans (hp11.1.mono HX10.out.size));have HK11:=aA (aL HK10.out hp11.1 (aD HK10.out) (by have:=HKW.out;omega) (by have:=HKW.out;omega));have HXL:=aA hp11.1;rcases hp11.2 with ⟨v',l',ml',hres,hl',rfl,hs',hml',h3'⟩|⟨rfl,o,l',ml',mo,hs',hno,hout⟩
      · have HNEW:Hid (eB F l2 (j+1)=some (vs++[v'],l')):=aA (by rw [bT HSEQ.out,HFJ.out,if_neg hz0,if_neg (by have:=HHH.out;omega),hres]);have HC11:=aA (HC10.out.exw HXL.out hs' hl' hml');have H33:=aA h3';clear hp11 hres hs' h3' q0 q1 q2 q3 q4 q5;go_wp2;go_roundw
        case rel=>exact ⟨j+1,_,l',ml',by omega,by go_num,HNEW.out,by omega,by omega,fun h=>H33.out (H3.out h),HC11.out,HX11.out,HK11.out⟩
        case measure=>simp [intOf];omega
      · have HEND:Hid (P (.returned (.bool false)) W11):=aA (by
         rw [HP2.out];cases o with
         | false =>
          have hn:eB F l2 xs.length=none:=fD (j:=j+1) (by omega) (by rw [bT HSEQ.out,HFJ.out,if_neg hz0,if_neg (by have:=HHH.out;omega),hno rfl]);rw [hn];exact bQ hs' HX11.out rfl
         | true =>
          have h5:=hout rfl;exact eZ hs' HX11.out (by
           rcases Int.lt_or_le ml (3 * left) with h6|h6
           · exact h6
           · have:=H3.out h6;omega))
        clear hp11 hs' hno hout q0 q1 q2 q3 q4 q5;go_wp2;exact HEND.out
end Go.Proofs.YtpbaaiilfkacnaaDoor
