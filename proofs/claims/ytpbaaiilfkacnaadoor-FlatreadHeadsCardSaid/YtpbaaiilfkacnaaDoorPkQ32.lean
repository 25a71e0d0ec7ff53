/-
  Package flatread: is a list right. Conditions: those that each theorem names.
-/
import Derived.Test.YtpbaaiilfkacnaaDoorPkQ27
namespace Go.Proofs.YtpbaaiilfkacnaaDoor
open Go.ChangeShapes Go.WideShapes Go.ChangeAt Go.RowKit Go.Shelf
set_option maxRecDepth 100000
set_option maxHeartbeats 16000000
def nN (w:World)(g:Nat)(a b c d e f i:Value):World:=((((((w.setCell ⟨g,0,none⟩ a).setCell ⟨g,1,none⟩ b).setCell ⟨g,2,none⟩ c).setCell ⟨g,3,none⟩ d).setCell ⟨g,4,none⟩ e).setCell ⟨g,5,none⟩ f).setCell ⟨g,6,none⟩ i
theorem aDD {w:World}{g:Nat}{p:Addr}{v x0 x1 x2 x3 x4 x5 x6:Value}(h:w.cell? p=some v)(hp:p.block≠g):(nN w g x0 x1 x2 x3 x4 x5 x6).cell? p=some v:=by have e:∀ (w:World) (i:Nat) (x:Value),(w.setCell ⟨g,i,none⟩ x).cell? p=w.cell? p:=fun w i x=>World.cell?_of_block (oG _ _ _ _ hp);unfold nN;rw [e,e,e,e,e,e,e,h]
def aCv (base:Nat)(w:World)(m:Nat)(bp:Option Addr)(bc:Nat)(sv ev:Value)(zs:List Int)(ss:List (bK × Value))(es:List aX)(fs:List (List dT × Value))(ns:List Nat)(wk mt B:Nat)(F:Nat→Int→Option (PV × Int))(left left2 ml:Int)(n L:Nat)(lc:Array Value)(y:Value)(wr:World):Prop:=
 ∃ (j:Nat) (vs:List PV) (l1 ml1:Int),j≤n∧y=.int .i64 j∧eB F left2 j=some (vs,l1)∧(0≤l1∧l1≤left)∧(0≤ml1∧ml1≤ml)∧(3 * left≤ml→3 * l1≤ml1)∧RCtx base wr m bp bc sv ev zs ss es fs ns wk mt B l1 ml1∧Exw wk mt w.heap.size w wr∧wr.heap[L]?=some (.cells lc 245 (0,0))
theorem uY {zs:List Int}{nx:Option jL}{k:Nat}{ref lists to left:Int}(hz:∀ i,0≤zs.getD i 0∧zs.getD i 0≤255)(h:eQ zs k lists to=false):bM zs nx k ref lists to left=none:=by
 unfold bM;by_cases h1:cV (aH zs) to 4=true
 · rw [bG h1,if_neg ?_];rintro ⟨h2,_⟩;have hi:=aW.1 h1;have h2':=aW.1 h2;have hn:=dW zs to.toNat hz;have hs:=iF k lists;have hm:0≤aY zs to.toNat 4 * bN k lists:=Int.mul_nonneg hn.1 (by omega);unfold eQ at h;rw [h1,aW.2 (show 0≤to+4∧0≤aY zs to.toNat 4 * bN k lists∧_ by omega)] at h;cases h
 · rw [if_neg h1]
theorem uN {zs:List Int}{nx:Option jL}{k:Nat}{ref lists to left:Int}(h:eQ zs k lists to=true):bM zs nx k ref lists to left=if 0≤left-(4+aY zs to.toNat 4 * bN k lists) then
   (match nx with
    | none=>if aY zs to.toNat 4=0 then some (.mk 0 [] [] false,left-(4+aY zs to.toNat 4 * bN k lists)) else none
    | some f=>match eB (fun j l=>f k ref lists (to+4+j * bN k lists) l) (left-(4+aY zs to.toNat 4 * bN k lists)) (aY zs to.toNat 4).toNat with
     | none=>none
     | some (ks,l)=>some (.mk 0 [] ks false,l)) else none:=by
 unfold eQ at h;rw [Bool.and_eq_true] at h;have hi:=aW.1 h.1;have h2':=aW.1 h.2;have h4:cV (aH zs) to (4+aY zs to.toNat 4 * bN k lists)=true:=aW.2 (by omega);unfold bM;rw [bG h.1];by_cases hc:0≤left-(4+aY zs to.toNat 4 * bN k lists)
 · rw [bG hc,bG ⟨h4,hc⟩];cases nx<;>rfl
 · rw [if_neg hc,if_neg (fun h=>hc h.2)]
theorem tU (room:Nat)(hroom:room≤12)(hnx:∀ q,room=q+1→tZ q):xF room:=by
 constructor;intro base w m bp bc sv ev zs ss es fs ns wk mt B left ml h k r l d at' hty hlp;have hzb:=h.msg.msg.bytes.1;have hlen:=h.msg.msg.len;have hb:=(bH w.heap.size w).alloc bD (.cells #[.int .u8 k,.int .i64 r,.int .i64 l,.int .i64 at',.int .u64 d,.bool true] 182);have HB:=aA hb;have HC:=aA (h.below hb);have HX:=aA (cN w (.cells #[.int .u8 k,.int .i64 r,.int .i64 l,.int .i64 at',.int .u64 d,.bool true] 182));have HKW:Hid (wk<w.heap.size∧mt<w.heap.size):=aA ⟨aD h.st.walk,aD h.st.meter⟩;have HTG:=aA (fun W (hW:Below (w.alloc (.cells #[.int .u8 k,.int .i64 r,.int .i64 l,.int .i64 at',.int .u64 d,.bool true] 182)).heap.size (w.alloc (.cells #[.int .u8 k,.int .i64 r,.int .i64 l,.int .i64 at',.int .u64 d,.bool true] 182)) W)=>gB W ((h.below hb).below hW).msg.msg k r l at' d true)
 obtain ⟨P,hP⟩:∃ P,gG (cM zs at' fun to=>bM zs (bL (aG ss) es zs room) k r ((l:Int)-1) to left) wk m mt left ml w=P:=⟨_,rfl⟩;rw [hP];have HP:=aA hP.symm;have HHL:=aA h.hl;have HML:=aA h.hml;have HTY:=aA hty;have hli:=hty.li;have hNX:=aA hnx;have HL1:Hid (((l-1:Nat):Int)=(l:Int)-1):=aA (by omega);have HTY1:Hid (oN ss.length es k r (l-1)):=aA ⟨hty.lo,hty.hi,by have:=hty.li;omega,hty.en,hty.st⟩;have HEL:=aA (fun W=>nD k r l (by omega) W);clear hP hb h hnx hty;unfold dD at *;simp only [if_true] at HTG;obtain ⟨jz,hjz⟩:∃ jz,fM zs at'=jz:=⟨_,rfl⟩;unfold cM at HP;rw [hjz] at HP HTG;have hbd:∀ to,jz=some to→0≤to∧to≤16384:=fun to e=>by rw [e] at hjz;have h1:=gV hzb hjz;unfold aH at h1;omega
 clear hjz;go_enter Tryd.func136,Tryd.ntmps136;go_upto_region 1 with (fail);generalize w.alloc (.cells #[.int .u8 k,.int .i64 r,.int .i64 l,.int .i64 at',.int .u64 d,.bool true] 182)=W0 at *;obtain ⟨_,s1,s2,s3,s4,s5,s6⟩:=bB HX.out;obtain ⟨_,s0,_,_,_⟩:=kH HC.out.st.walk;cases jz with
 | none =>
  have HEND:Hid (∀ W,Below w.heap.size w W→WState W wk m mt false left ml false→P (.returned (.bool false)) W):=aA (fun W hB hs=>by rw [HP.out];exact bQ hs (Exw.of_below hB) rfl);unfold sQ at HTG;refine gL ?_;refine qM s0 s1 s2 s3 s4 s5 s6 ?_;intro hS;refine aK 0 (.pointer (some ⟨wk,0,none⟩)) ?_;simp only [td];refine aK 1 (.pointer (some ⟨wk,0,none⟩)) ?_;simp only [td];refine aK 2 (.pointer (some ⟨wk,0,none⟩)) ?_;simp only [td];refine aK 3 (.pointer (some ⟨m,0,none⟩)) ?_;simp only [td];refine aK 4 (.agg #[.int .u8 k,.int .i64 r,.int .i64 l,.int .i64 at',.int .u64 d,.bool true]) ?_;simp only [td];refine bS 5 fun K hK=>?_;go_simp;refine (HTG.out W0.drew ((bH _ W0).drew)).mono ?_;rintro e Wh1 ⟨rfl,hb1⟩;have hx1:Below W0.heap.size W0 Wh1:=(bH _ W0).drew.trans hb1;refine hK.out _ _ (fZ hx1 ⟨s0,s1,s2,s3,s4,s5,s6⟩) (fun hS=>?_);refine aK 6 (.tuple #[.int .i64 0,.bool false]) ?_;simp only [td]
  refine aK 7 (.int .i64 0) ?_;simp only [td];refine aK 8 (.bool false) ?_;simp only [td];refine aK 9 (.int .i64 0) ?_;simp only [td];refine aK 10 (.bool false) ?_;simp only [td];refine gA (by kernel_rfl) ?_ _;refine fI ?_;try simp only [Exit.then]
  have HBE:=aA (HB.out.trans (hx1.mono HB.out.size));have HWE:=aA (HC.out.st.below hx1);clear hS s0 s1 s2 s3 s4 s5 s6 hx1 hb1;go_wp2;exact HEND.out _ HBE.out HWE.out
 | some to =>
  have hto:=hbd to rfl;unfold sQ at HTG;refine gL ?_;refine qM s0 s1 s2 s3 s4 s5 s6 ?_;intro hS;refine aK 0 (.pointer (some ⟨wk,0,none⟩)) ?_;simp only [td];refine aK 1 (.pointer (some ⟨wk,0,none⟩)) ?_;simp only [td];refine aK 2 (.pointer (some ⟨wk,0,none⟩)) ?_;simp only [td];refine aK 3 (.pointer (some ⟨m,0,none⟩)) ?_;simp only [td];refine aK 4 (.agg #[.int .u8 k,.int .i64 r,.int .i64 l,.int .i64 at',.int .u64 d,.bool true]) ?_;simp only [td];refine bS 5 fun K hK=>?_;go_simp;refine (HTG.out W0.drew ((bH _ W0).drew)).mono ?_;rintro e Wh1 ⟨rfl,hb1⟩;have hx1:Below W0.heap.size W0 Wh1:=(bH _ W0).drew.trans hb1;refine hK.out _ _ (fZ hx1 ⟨s0,s1,s2,s3,s4,s5,s6⟩) (fun hS=>?_);refine aK 6 (.tuple #[.int .i64 to,.bool true]) ?_;simp only [td];refine aK 7 (.int .i64 to) ?_;simp only [td];refine aK 8 (.bool true) ?_;simp only [td];refine aK 9 (.int .i64 to) ?_;simp only [td]
  refine aK 10 (.bool true) ?_;simp only [td];refine gA (by kernel_rfl) ?_ _;refine fI ?_;try simp only [Exit.then]
  have HB1:=aA (HB.out.trans (hx1.mono HB.out.size));have HC1:=aA (HC.out.below hx1);have HX1:=aA (aE HX.out hx1 (aD HX.out));have HWS1:Hid (w.heap.size<Wh1.heap.size):=aA (aD HX1.out);clear hS s0 s1 s2 s3 s4 s5 s6 hb1 hx1 HTG HC HX;have HFI:=aA (fun W (hW:Below Wh1.heap.size Wh1 W)=>uD W (HC1.out.below hW).msg.msg k r ((l:Int)-1) to);obtain ⟨_,s1,s2,s3,s4,s5,s6⟩:=bB HX1.out;obtain ⟨_,s0,_,_,_⟩:=kH HC1.out.st.walk;have HNO:=aA (fun (hh:eQ zs k ((l:Int)-1) to=false)=>uY (nx:=bL (aG ss) es zs room) (ref:=(r:Int)) (left:=left) hzb hh);have HOK:=aA (fun (hh:eQ zs k ((l:Int)-1) to=true)=>uN (nx:=bL (aG ss) es zs room) (ref:=(r:Int)) (left:=left) hh);have hld:=dW zs to.toNat hzb;have hstp:=iF k ((l:Int)-1);have HFIT:Hid (eQ zs k ((l:Int)-1) to=true→cV (aH zs) (to+4) (aY zs to.toNat 4 * bN k ((l:Int)-1))=true):=aA (fun hh=>by unfold eQ at hh;rw [Bool.and_eq_true] at hh;exact hh.2)
  have HSTE:Hid (aT k ((l:Int)-1)=1→bN k ((l:Int)-1)=aP k):=aA (fun hh=>by unfold bN;rw [bG ((pP k _).1 hh)]);obtain ⟨n,hn⟩:∃ n:Nat,aY zs to.toNat 4=(n:Int):=Int.eq_ofNat_of_zero_le hld.1;obtain ⟨st,hst⟩:∃ st,bN k ((l:Int)-1)=st:=⟨_,rfl⟩;unfold mW kG lJ at HFI;simp only [hn,hst] at HFI HOK HFIT HSTE;rw [hn] at hld;rw [hst] at hstp;obtain ⟨okk,hokk⟩:∃ okk,eQ zs k ((l:Int)-1) to=okk:=⟨_,rfl⟩;rw [hokk] at HNO HOK HFIT;simp only [hokk] at HFI;clear hn hst hokk;go_upto_region 4 with (fail);refine gL ?_;refine qM s0 s1 s2 s3 s4 s5 s6 ?_;intro hS;refine aK 0 (.pointer (some ⟨wk,0,none⟩)) ?_;simp only [td];refine aK 1 (.pointer (some ⟨wk,0,none⟩)) ?_;simp only [td];refine aK 2 (.pointer (some ⟨wk,0,none⟩)) ?_;simp only [td];refine aK 3 (.pointer (some ⟨m,0,none⟩)) ?_;simp only [td];refine aK 4 (.int .i64 to) ?_;simp only [td];refine aK 5 (.pointer (some ⟨w.heap.size,0,none⟩)) ?_;simp only [td]
  refine aK 6 (.agg #[.int .u8 k,.int .i64 r,.int .i64 l]) ?_;simp only [td];refine wpAnyH_ready (rs:=[7,12]) (by kernel_rfl) (by decide) (AllReadyH.cons rfl (fun K hK=>?_) (AllReadyH.cons rfl (fun K hK=>?_) lY))
  · rw [bG (by kernel_rfl)];go_simp;refine (HEL.out Wh1.drew).mono ?_;rintro e V1 ⟨rfl,hb1⟩;have hv1:Below Wh1.heap.size Wh1 V1:=(bH _ Wh1).drew.trans hb1;refine hK.out _ _ (fZ hv1 ⟨s0,s1,s2,s3,s4,s5,s6⟩) (fun hS=>?_);refine wpAnyH_ready (rs:=[8,12]) (by kernel_rfl) (by decide) (AllReadyH.cons rfl (fun K hK=>?_) (AllReadyH.cons rfl (fun K hK=>?_) lY))
    · rw [bG (by kernel_rfl)];go_simp;refine (HFI.out V1 hv1).mono ?_;rintro e V2 ⟨hfp,hb2⟩;have hv2:Below Wh1.heap.size Wh1 V2:=hv1.trans (hb2.mono hv1.size);obtain ⟨lp,lk,lr,ll,la,ln,ls,ok,rfl,hlp1,hval⟩:∃ (lp:Value) (lk lr ll la ln ls:Int) (ok:Bool),e=.returned (.tuple #[.agg #[lp,.int .u8 lk,.int .i64 lr,.int .i64 ll,.int .i64 la,.int .i64 ln,.int .i64 ls],.bool ok])∧lp.oneCell'=true∧((ok=true∧okk=true∧lp=.pointer (some ⟨m,0,none⟩)∧lk=k∧lr=r∧ll=(l:Int)-1∧la=to+4∧ln=n∧ls=st)∨(ok=false∧okk=false)):=by
       rcases hfp with ⟨h1,h2⟩|⟨h1,h2⟩
       · exact ⟨_,_,_,_,_,_,_,_,h2,rfl,.inl ⟨rfl,h1,rfl,rfl,rfl,rfl,rfl,rfl,rfl⟩⟩
       · exact ⟨_,_,_,_,_,_,_,_,h2,rfl,.inr ⟨rfl,h1⟩⟩
      refine hK.out _ _ (fZ hv2 ⟨s0,s1,s2,s3,s4,s5,s6⟩) (fun hS=>?_);refine aK 9 (.tuple #[.agg #[lp,.int .u8 lk,.int .i64 lr,.int .i64 ll,.int .i64 la,.int .i64 ln,.int .i64 ls],.bool ok]) ?_;simp only [td];refine aK 10 (.agg #[lp,.int .u8 lk,.int .i64 lr,.int .i64 ll,.int .i64 la,.int .i64 ln,.int .i64 ls]) ?_;simp only [td];refine aK 11 (.bool ok) ?_;simp only [td];refine bS 12 fun K hK=>?_;go_simp;have hv3:Below Wh1.heap.size Wh1 (V2.alloc (.cells #[.pointer none,.int .u8 0,.int .i64 0,.int .i64 0,.int .i64 0,.int .i64 0,.int .i64 0] 245)):=hv2.alloc hv2.size _;have hT3:=cN V2 (.cells #[.pointer none,.int .u8 0,.int .i64 0,.int .i64 0,.int .i64 0,.int .i64 0,.int .i64 0] 245);refine hK.out _ _ (fZ hv3 ⟨s0,s1,s2,s3,s4,s5,s6⟩) (fun hS=>?_)
      generalize V2.alloc (.cells #[.pointer none,.int .u8 0,.int .i64 0,.int .i64 0,.int .i64 0,.int .i64 0,.int .i64 0] 245)=V3 at *;have hthere:V3.there (V2.heap.size) 0 7:=fun i hi=>by
       have h4:i=0∨i=1∨i=2∨i=3∨i=4∨i=5∨i=6:=by omega
       obtain ⟨_,v0,v1,v2,v3,v4,v5,v6⟩:=eU hT3;rcases h4 with rfl|rfl|rfl|rfl|rfl|rfl|rfl
       · exact ⟨by rw [Nat.add_zero,v0];rfl,aB hT3 _⟩
       · exact ⟨by rw [cX,v1];rfl,aB hT3 _⟩
       · exact ⟨by rw [cX,v2];rfl,aB hT3 _⟩
       · exact ⟨by rw [cX,v3];rfl,aB hT3 _⟩
       · exact ⟨by rw [cX,v4];rfl,aB hT3 _⟩
       · exact ⟨by rw [cX,v5];rfl,aB hT3 _⟩
       · exact ⟨by rw [cX,v6];rfl,aB hT3 _⟩
      refine bS 13 fun K hK=>?_;refine wp_store_mid 245 (.tmp 9) (.tmp 33) rfl (V2.heap.size) 0 #[lp,.int .u8 lk,.int .i64 lr,.int .i64 ll,.int .i64 la,.int .i64 ln,.int .i64 ls] rfl rfl hthere (by kernel_rfl) (pW.2 (by intro x hx;simp at hx;rcases hx with rfl|rfl|rfl|rfl|rfl|rfl|rfl<;>first|rfl|exact hlp1)) ?_;change K _ (nN V3 (V2.heap.size) lp (.int .u8 lk) (.int .i64 lr) (.int .i64 ll) (.int .i64 la) (.int .i64 ln) (.int .i64 ls));have hTS:Wh1.heap.size≤V2.heap.size:=hv2.size;have hks:∀ (bb o:Nat) (cc:Value),bb<Wh1.heap.size→Wh1.cell? ⟨bb,o,none⟩=some cc→(nN V3 (V2.heap.size) lp (.int .u8 lk) (.int .i64 lr) (.int .i64 ll) (.int .i64 la) (.int .i64 ln) (.int .i64 ls)).cell? ⟨bb,o,none⟩=some cc:=fun bb o cc hbb hcc=>aDD (aC hv3 hcc) (by show bb≠_;omega)
      refine hK.out _ _ ⟨hks _ _ _ (cP s0) s0,hks _ _ _ (cP s1) s1,hks _ _ _ (cP s2) s2,hks _ _ _ (cP s3) s3,hks _ _ _ (cP s4) s4,hks _ _ _ (cP s5) s5,hks _ _ _ (cP s6) s6⟩ (fun hS=>?_);refine aK 14 (.bool ok) ?_;simp only [td];refine gA (by kernel_rfl) ?_ _;refine fI ?_;try simp only [Exit.then]
      have HE1:=aA (show (nN V3 (V2.heap.size) lp (.int .u8 lk) (.int .i64 lr) (.int .i64 ll) (.int .i64 la) (.int .i64 ln) (.int .i64 ls)).heap[V2.heap.size]?=some (.cells #[lp,.int .u8 lk,.int .i64 lr,.int .i64 ll,.int .i64 la,.int .i64 ln,.int .i64 ls] 245 (0,0)) from gQ hT3 _ _ _ _ _ _ _);have HE2:=aA (show Below Wh1.heap.size Wh1 (nN V3 (V2.heap.size) lp (.int .u8 lk) (.int .i64 lr) (.int .i64 ll) (.int .i64 la) (.int .i64 ln) (.int .i64 ls)) from fE hv3 hTS _ _ _ _ _ _ _);have HLT:Hid (w.heap.size<V2.heap.size):=aA (by have:=HWS1.out;omega);clear hS hks hthere s0 s1 s2 s3 s4 s5 s6 hTS hfp;generalize nN V3 (V2.heap.size) lp (.int .u8 lk) (.int .i64 lr) (.int .i64 ll) (.int .i64 la) (.int .i64 ln) (.int .i64 ls)=W9 at *;obtain ⟨L,hL⟩:∃ L,V2.heap.size=L:=⟨_,rfl⟩;rw [hL] at HE1 HLT ⊢;clear hL;have HC9:=aA (HC1.out.below HE2.out)
      have HB9:=aA (HB1.out.trans (HE2.out.mono HB1.out.size));rcases hval with ⟨rfl,hokt,rfl,rfl,rfl,rfl,rfl,rfl,rfl⟩|⟨rfl,hokf⟩
      case inr =>
       have HEND:Hid (P (.returned (.bool false)) W9):=aA (by rw [HP.out];exact bQ HC9.out.st (Exw.of_below HB9.out) (HNO.out hokf));clear hokf;obtain ⟨_,q0,q1,q2,q3,q4,q5,q6⟩:=eU HE1.out;go_wp2;exact HEND.out
      obtain ⟨_,q0,q1,q2,q3,q4,q5,q6⟩:=eU HE1.out;have HLA:=aA (HOK.out hokt);have HFT:=aA (aW.1 (HFIT.out hokt));clear hokt HNO HOK HFIT;have hz:aH zs=(zs.length:Int):=rfl;have hns:0≤(n:Int) * ls∧(n:Int) * ls≤16384:=by have:=HFT.out;rw [hz] at this;omega
      have hnn:(n:Int)≤16384:=by have h1:(n:Int) * 1≤(n:Int) * ls:=Int.mul_le_mul_of_nonneg_left hstp.1 (by omega);omega
      obtain ⟨S,hS⟩:∃ S,(n:Int) * ls=S:=⟨_,rfl⟩;have hws:IntKind.i64.wrap ((n:Int) * ls)=S:=by rw [hS];exact cU S
      have hws2:=cU (4+S);have hwn:=cU (1+(n:Int));have hnS:(n:Int)≤S:=by have h1:(n:Int) * 1≤(n:Int) * ls:=Int.mul_le_mul_of_nonneg_left hstp.1 (by omega);omega
      rw [hS] at HLA HFT hns;have HSS:=aA hS;clear hS;by_cases hnr:0<n∧room=0
      case pos =>
       obtain ⟨hn0,hr0⟩:=hnr;have HEND:Hid (P (.returned (.bool false)) W9):=aA (by
        rw [HP.out];refine bQ HC9.out.st (Exw.of_below HB9.out) ?_;show bM zs (bL (aG ss) es zs room) k r ((l:Int)-1) to left=none;rw [HLA.out,hr0];split
        · show (if (n:Int)=0 then _ else none)=none;rw [if_neg (by omega)]
        · rfl)
       have hn1:(0:Int)<(n:Int):=by omega
       have hr1:((room:Int)==0)=true:=by simp;omega
       clear hr0 hn0;go_wp2;exact HEND.out
      obtain ⟨F,HF⟩:∃ F:Nat→Int→Option (PV × Int),Hid ((∀ q,room=q+1→F=fun (j:Nat) l2=>bV (aG ss) es zs q k r ((l:Int)-1) (to+4+(j:Int) * ls) l2)∧(0<n→∃ q,room=q+1)):=by
       rcases Nat.eq_zero_or_pos room with h0|h0
       · exact ⟨fun _ _=>none,aA ⟨fun q hq=>by omega,fun h=>absurd ⟨h,h0⟩ hnr⟩⟩
       · exact ⟨fun (j:Nat) l2=>bV (aG ss) es zs (room-1) k r ((l:Int)-1) (to+4+(j:Int) * ls) l2,aA ⟨fun q hq=>by rw [show room-1=q by omega],fun _=>⟨room-1,by omega⟩⟩⟩
      have HLB:Hid (bM zs (bL (aG ss) es zs room) k r ((l:Int)-1) to left=if 0≤left-(4+S) then (match eB F (left-(4+S)) n with|none=>none|some (ks,l)=>some (.mk 0 [] ks false,l)) else none):=aA (by
       rw [HLA.out];split
       · rcases Nat.eq_zero_or_pos room with h0|h0
         · have hn0:n=0:=by
            rcases Nat.eq_zero_or_pos n with h1|h1
            · exact h1
            · exact absurd ⟨h1,h0⟩ hnr
           subst hn0;rw [h0];rfl
         · obtain ⟨q,hq⟩:∃ q,room=q+1:=⟨room-1,by omega⟩;rw [HF.out.1 q hq,hq,lN];rfl
       · rfl)
      clear HLA;have hgo:¬(0<n∧(room:Int)=0):=fun h=>hnr ⟨h.1,by omega⟩;have HRE:=aA (iT W9 HC9.out.st (4+S) (by have:=HHL.out;omega));obtain ⟨l2,hl2⟩:∃ l2,left-(4+S)=l2:=⟨_,rfl⟩;rw [hl2] at HRE HLB;have HL2:=aA hl2;clear hl2;by_cases hn0:0<n
      case' pos=>have tn:((0:Int)<(n:Int)):=by omega
      case' pos=>have tr:((room:Int)==0)=false:=by simp;omega
      case' neg=>have tn:¬((0:Int)<(n:Int)):=by omega
      all_goals
       clear hnr hgo;go_wp2_with fail;refine HRE.out.mono ?_;rintro e W10 ⟨rfl,hw10,hx10⟩;have HX10:=aA ((Exw.of_below (R:=wk) (S:=mt) HB9.out).trans (hx10.mono HB9.out.size));have HW10:=aA hw10;have HXX10:=aA hx10;have HQ10:=aA (aL HE1.out hx10 (aD HE1.out) (by have:=HKW.out;have:=HLT.out;have:=HWS1.out;omega) (by have:=HKW.out;have:=HLT.out;have:=HWS1.out;omega));clear hw10 hx10 q0 q1 q2 q3 q4 q5 q6 HRE;obtain ⟨_,q0,q1,q2,q3,q4,q5,q6⟩:=eU HQ10.out;by_cases hl3:0≤l2
       case neg =>
        rw [iB hl3];have HEND:Hid (P (.returned (.bool false)) W10):=aA (by rw [HP.out];exact bQ HW10.out HX10.out (by show bM zs (bL (aG ss) es zs room) k r ((l:Int)-1) to left=none;rw [HLB.out,if_neg hl3]));go_wp2;exact HEND.out
       rw [fO hl3];by_cases hpay:1+(n:Int)≤ml
       case neg =>
        have HPY:=aA (nY W10 HW10.out (1+(n:Int)) (by omega) (by omega));go_wp2_with fail;refine HPY.out.mono ?_;rintro e W11 ⟨rfl,hw11,hx11⟩;have HEND:Hid (P (.returned (.bool false)) W11):=aA (by rw [HP.out];exact eZ hw11 (HX10.out.trans (hx11.mono HX10.out.size)) (by have:=HL2.out;omega));clear hw11 hx11 q0 q1 q2 q3 q4 q5 q6;go_wp2;exact HEND.out
       have HPY:=aA (lT W10 HW10.out (1+(n:Int)) (by omega) (by omega) (by have:=HML.out;omega));go_wp2_with fail;refine HPY.out.mono ?_;rintro e W11 ⟨rfl,hw11,hx11⟩;have HX11:=aA (HX10.out.trans (hx11.mono HX10.out.size));have HQ11:=aA (aL HQ10.out hx11 (aD HQ10.out) (by have:=HKW.out;have:=HLT.out;have:=HWS1.out;omega) (by have:=HKW.out;have:=HLT.out;have:=HWS1.out;omega));have HC11:=aA (HC9.out.exw (l':=l2) (ml':=ml-(1+(n:Int))) (HXX10.out.trans (hx11.mono HXX10.out.size)) hw11 (by have:=HL2.out;omega) (by omega));clear hw11 hx11 q0 q1 q2 q3 q4 q5 q6 HPY;obtain ⟨_,q0,q1,q2,q3,q4,q5,q6⟩:=eU HQ11.out;have HSO:=aA (fun W=>dS k r ((l:Int)-1) W);obtain ⟨so,hso⟩:∃ so,aT k ((l:Int)-1)=so:=⟨_,rfl⟩;have HSOE:=aA hso;simp only [hso] at HSO;clear hso;go_wp2_with fail;refine (HSO.out W11).mono ?_;rintro e W12 ⟨rfl,hb12⟩
       have HX12:=aA (HX11.out.trans ((Exw.of_below (R:=wk) (S:=mt) hb12).mono HX11.out.size));have HQ12:=aA (aE HQ11.out hb12 (aD HQ11.out));have HC12:=aA (HC11.out.below hb12);clear hb12 q0 q1 q2 q3 q4 q5 q6;obtain ⟨_,q0,q1,q2,q3,q4,q5,q6⟩:=eU HQ12.out;have HST:Hid (aCv base w m bp bc sv ev zs ss es fs ns wk mt B F left l2 ml n L #[.pointer (some ⟨m,0,none⟩),.int .u8 k,.int .i64 r,.int .i64 ((l:Int)-1),.int .i64 (to+4),.int .i64 n,.int .i64 ls] (.int .i64 ((0:Nat):Int)) W12):=aA ⟨0,[],l2,ml-(1+(n:Int)),Nat.zero_le _,rfl,rfl,by have:=HL2.out;omega,by omega,by have:=HL2.out;omega,HC12.out,HX12.out,HQ12.out⟩;clear HX10 HX11 HX12 HQ10 HQ11 HQ12 HC11 HC12 HXX10 HW10 HSO;go_wp2_with fail;clear q0 q1 q2 q3 q4 q5 q6
       go_loopw [70] (fun y wr=>aCv base w m bp bc sv ev zs ss es fs ns wk mt B F left l2 ml n L #[.pointer (some ⟨m,0,none⟩),.int .u8 k,.int .i64 r,.int .i64 ((l:Int)-1),.int .i64 (to+4),.int .i64 n,.int .i64 ls] y wr) (fun y _=>n-(intOf y).toNat)
       case atStart=>exact HST.out
       case round =>
        obtain ⟨j,vs,l1,ml1,hj,rfl,hseq,hl1,hml1,h3,hcx,hx,hkb⟩:=hrel;have HSEQ:=aA hseq;have HCX:=aA hcx;have HXW:=aA hx;have HKB:=aA hkb;have H3:=aA h3;clear hseq hcx hx hkb h3;by_cases hjl:j<n
        case neg =>
         obtain rfl:j=n:=by omega
         have HEND:Hid (P (.returned (.bool true)) wr):=aA (by rw [HP.out];refine iU (v:=.mk 0 [] vs false) HCX.out.st HXW.out ?_ hl1.1 hl1.2 hml1.1 hml1.2 H3.out;show bM zs (bL (aG ss) es zs room) k r ((l:Int)-1) to left=_;rw [HLB.out,bG hl3,HSEQ.out]);clear hjl;go_wp2;exact HEND.out
        obtain ⟨q,hq⟩:=HF.out.2 (by omega);have HKQ:=aA (hNX.out q hq);have HFQ:=aA (HF.out.1 q hq);have hrq:(room:Int)-1=(q:Int):=by omega
        have hrq2:IntKind.i64.wrap (q:Int)=(q:Int):=cU _;have hji:(j:Int)<(n:Int):=by omega
        have hjs:0≤(j:Int) * ls∧(j:Int) * ls+ls≤S:=by have h1:0≤(j:Int) * ls:=Int.mul_nonneg (by omega) (by omega);have h2:((j:Int)+1) * ls≤(n:Int) * ls:=Int.mul_le_mul_of_nonneg_right (by omega) (by omega);rw [HSS.out,Int.add_mul,Int.one_mul] at h2;exact ⟨h1,h2⟩
        have HLK:=aA (fun W=>oI W m k r ((l:Int)-1) (to+4) n ls j so hji (by omega) hstp (by omega) HSOE.out);have HIN:Hid (aT k ((l-1:Nat):Int)=1→cV (aH zs) (to+4+(j:Int) * ls) (aP k)=true):=aA (fun hs1=>by rw [HL1.out] at hs1;have h5:=HSTE.out hs1;have h6:=HFT.out;rw [←h5];exact aW.2 (by omega))
        have HKR:=aA (fun W (hW:Below wr.heap.size wr W)=>HKQ.out.run (HCX.out.below hW) k r (l-1) 0 (to+4+(j:Int) * ls) HTY1.out HIN.out);rw [HL1.out] at HKR;unfold kG dD at HLK;unfold dD at HKR;obtain ⟨_,q0,q1,q2,q3,q4,q5,q6⟩:=eU HKB.out;clear hq;go_wp2_with fail;refine (HLK.out _).mono ?_;rintro e W13 ⟨rfl,hb13⟩;have HKR13:=aA (HKR.out W13 hb13);have HX13:=aA (HXW.out.trans ((Exw.of_below (R:=wk) (S:=mt) hb13).mono HXW.out.size));have HQ13:=aA (aE HKB.out hb13 (aD HKB.out));have HC13:=aA (HCX.out.below hb13);clear hb13 q0 q1 q2 q3 q4 q5 q6 HLK HKR;go_wp2_with fail;refine HKR13.out.mono ?_;rintro e W14 hp14;have HX14:=aA (HX13.out.trans (hp14.1.mono HX13.out.size));have HQ14:=aA (aL HQ13.out hp14.1 (aD HQ13.out) (by have:=HKW.out;have:=HLT.out;have:=HWS1.out;omega) (by have:=HKW.out;have:=HLT.out;have:=HWS1.out;omega));have HXL:=aA hp14.1
        rcases hp14.2 with ⟨v',l',ml',hres,hl',rfl,hs',hml',h3'⟩|⟨rfl,o,l',ml',mo,hs',hno,hout⟩
        · have HNEW:Hid (eB F l2 (j+1)=some (vs++[v'],l')):=aA (by rw [bT HSEQ.out,HFQ.out];show (match bV (aG ss) es zs q k r ((l:Int)-1) (to+4+(j:Int) * ls) l1 with|none=>none|some (v,l2)=>some (vs++[v],l2))=_;rw [hres]);have HC14:=aA (HC13.out.exw HXL.out hs' hl' hml');have H33:=aA h3';clear hp14 hres hs' h3';go_wp2;go_roundw
          case rel=>exact ⟨j+1,_,l',ml',by omega,by go_num,HNEW.out,by omega,by omega,fun h=>H33.out (H3.out h),HC14.out,HX14.out,HQ14.out⟩
          case measure=>simp [intOf];omega
        · have HEND:Hid (P (.returned (.bool false)) W14):=aA (by
           rw [HP.out];cases o with
           | false =>
            have hn:eB F l2 n=none:=fD (j:=j+1) (by omega) (by rw [bT HSEQ.out,HFQ.out];show (match bV (aG ss) es zs q k r ((l:Int)-1) (to+4+(j:Int) * ls) l1 with|none=>none|some (v,l2)=>some (vs++[v],l2))=_;rw [hno rfl]);refine bQ hs' HX14.out ?_;show bM zs (bL (aG ss) es zs room) k r ((l:Int)-1) to left=none;rw [HLB.out,bG hl3,hn]
           | true =>
            have h5:=hout rfl;exact eZ hs' HX14.out (by
             rcases Int.lt_or_le ml (3 * left) with h6|h6
             · exact h6
             · have:=H3.out h6;omega))
          clear hp14 hs' hno hout;go_wp2;exact HEND.out
    · rw [bG (by kernel_rfl)];go_simp;have hv2:Below Wh1.heap.size Wh1 (V1.alloc (.cells #[.pointer none,.int .u8 0,.int .i64 0,.int .i64 0,.int .i64 0,.int .i64 0,.int .i64 0] 245)):=hv1.alloc hv1.size _;have hT2:=cN V1 (.cells #[.pointer none,.int .u8 0,.int .i64 0,.int .i64 0,.int .i64 0,.int .i64 0,.int .i64 0] 245);refine hK.out _ _ (fZ hv2 ⟨s0,s1,s2,s3,s4,s5,s6⟩) (fun hS=>?_);generalize V1.alloc (.cells #[.pointer none,.int .u8 0,.int .i64 0,.int .i64 0,.int .i64 0,.int .i64 0,.int .i64 0] 245)=V2 at *;refine bS 8 fun K hK=>?_;go_simp;refine (HFI.out V2 hv2).mono ?_;rintro e V3 ⟨hfp,hb3⟩;have hv3:Below Wh1.heap.size Wh1 V3:=hv2.trans (hb3.mono hv2.size)
      obtain ⟨lp,lk,lr,ll,la,ln,ls,ok,rfl,hlp1,hval⟩:∃ (lp:Value) (lk lr ll la ln ls:Int) (ok:Bool),e=.returned (.tuple #[.agg #[lp,.int .u8 lk,.int .i64 lr,.int .i64 ll,.int .i64 la,.int .i64 ln,.int .i64 ls],.bool ok])∧lp.oneCell'=true∧((ok=true∧okk=true∧lp=.pointer (some ⟨m,0,none⟩)∧lk=k∧lr=r∧ll=(l:Int)-1∧la=to+4∧ln=n∧ls=st)∨(ok=false∧okk=false)):=by
       rcases hfp with ⟨h1,h2⟩|⟨h1,h2⟩
       · exact ⟨_,_,_,_,_,_,_,_,h2,rfl,.inl ⟨rfl,h1,rfl,rfl,rfl,rfl,rfl,rfl,rfl⟩⟩
       · exact ⟨_,_,_,_,_,_,_,_,h2,rfl,.inr ⟨rfl,h1⟩⟩
      refine hK.out _ _ (fZ hv3 ⟨s0,s1,s2,s3,s4,s5,s6⟩) (fun hS=>?_);refine aK 9 (.tuple #[.agg #[lp,.int .u8 lk,.int .i64 lr,.int .i64 ll,.int .i64 la,.int .i64 ln,.int .i64 ls],.bool ok]) ?_;simp only [td];refine aK 10 (.agg #[lp,.int .u8 lk,.int .i64 lr,.int .i64 ll,.int .i64 la,.int .i64 ln,.int .i64 ls]) ?_;simp only [td];refine aK 11 (.bool ok) ?_;simp only [td];have hT3:=aE hT2 hb3 (aD hT2);have hthere:V3.there (V1.heap.size) 0 7:=fun i hi=>by
       have h4:i=0∨i=1∨i=2∨i=3∨i=4∨i=5∨i=6:=by omega
       obtain ⟨_,v0,v1,v2,v3,v4,v5,v6⟩:=eU hT3;rcases h4 with rfl|rfl|rfl|rfl|rfl|rfl|rfl
       · exact ⟨by rw [Nat.add_zero,v0];rfl,aB hT3 _⟩
       · exact ⟨by rw [cX,v1];rfl,aB hT3 _⟩
       · exact ⟨by rw [cX,v2];rfl,aB hT3 _⟩
       · exact ⟨by rw [cX,v3];rfl,aB hT3 _⟩
       · exact ⟨by rw [cX,v4];rfl,aB hT3 _⟩
       · exact ⟨by rw [cX,v5];rfl,aB hT3 _⟩
       · exact ⟨by rw [cX,v6];rfl,aB hT3 _⟩
      refine bS 13 fun K hK=>?_;refine wp_store_mid 245 (.tmp 9) (.tmp 33) rfl (V1.heap.size) 0 #[lp,.int .u8 lk,.int .i64 lr,.int .i64 ll,.int .i64 la,.int .i64 ln,.int .i64 ls] rfl rfl hthere (by kernel_rfl) (pW.2 (by intro x hx;simp at hx;rcases hx with rfl|rfl|rfl|rfl|rfl|rfl|rfl<;>first|rfl|exact hlp1)) ?_;change K _ (nN V3 (V1.heap.size) lp (.int .u8 lk) (.int .i64 lr) (.int .i64 ll) (.int .i64 la) (.int .i64 ln) (.int .i64 ls));have hTS:Wh1.heap.size≤V1.heap.size:=hv1.size;have hks:∀ (bb o:Nat) (cc:Value),bb<Wh1.heap.size→Wh1.cell? ⟨bb,o,none⟩=some cc→(nN V3 (V1.heap.size) lp (.int .u8 lk) (.int .i64 lr) (.int .i64 ll) (.int .i64 la) (.int .i64 ln) (.int .i64 ls)).cell? ⟨bb,o,none⟩=some cc:=fun bb o cc hbb hcc=>aDD (aC hv3 hcc) (by show bb≠_;omega)
      refine hK.out _ _ ⟨hks _ _ _ (cP s0) s0,hks _ _ _ (cP s1) s1,hks _ _ _ (cP s2) s2,hks _ _ _ (cP s3) s3,hks _ _ _ (cP s4) s4,hks _ _ _ (cP s5) s5,hks _ _ _ (cP s6) s6⟩ (fun hS=>?_);refine aK 14 (.bool ok) ?_;simp only [td];refine gA (by kernel_rfl) ?_ _;refine fI ?_;try simp only [Exit.then]
      have HE1:=aA (show (nN V3 (V1.heap.size) lp (.int .u8 lk) (.int .i64 lr) (.int .i64 ll) (.int .i64 la) (.int .i64 ln) (.int .i64 ls)).heap[V1.heap.size]?=some (.cells #[lp,.int .u8 lk,.int .i64 lr,.int .i64 ll,.int .i64 la,.int .i64 ln,.int .i64 ls] 245 (0,0)) from gQ hT3 _ _ _ _ _ _ _);have HE2:=aA (show Below Wh1.heap.size Wh1 (nN V3 (V1.heap.size) lp (.int .u8 lk) (.int .i64 lr) (.int .i64 ll) (.int .i64 la) (.int .i64 ln) (.int .i64 ls)) from fE hv3 hTS _ _ _ _ _ _ _);have HLT:Hid (w.heap.size<V1.heap.size):=aA (by have:=HWS1.out;omega);clear hS hks hthere s0 s1 s2 s3 s4 s5 s6 hTS hfp;generalize nN V3 (V1.heap.size) lp (.int .u8 lk) (.int .i64 lr) (.int .i64 ll) (.int .i64 la) (.int .i64 ln) (.int .i64 ls)=W9 at *;obtain ⟨L,hL⟩:∃ L,V1.heap.size=L:=⟨_,rfl⟩;rw [hL] at HE1 HLT ⊢;clear hL;have HC9:=aA (HC1.out.below HE2.out)
      have HB9:=aA (HB1.out.trans (HE2.out.mono HB1.out.size));rcases hval with ⟨rfl,hokt,rfl,rfl,rfl,rfl,rfl,rfl,rfl⟩|⟨rfl,hokf⟩
      case inr =>
       have HEND:Hid (P (.returned (.bool false)) W9):=aA (by rw [HP.out];exact bQ HC9.out.st (Exw.of_below HB9.out) (HNO.out hokf));clear hokf;obtain ⟨_,q0,q1,q2,q3,q4,q5,q6⟩:=eU HE1.out;go_wp2;exact HEND.out
      obtain ⟨_,q0,q1,q2,q3,q4,q5,q6⟩:=eU HE1.out;have HLA:=aA (HOK.out hokt);have HFT:=aA (aW.1 (HFIT.out hokt));clear hokt HNO HOK HFIT;have hz:aH zs=(zs.length:Int):=rfl;have hns:0≤(n:Int) * ls∧(n:Int) * ls≤16384:=by have:=HFT.out;rw [hz] at this;omega
      have hnn:(n:Int)≤16384:=by have h1:(n:Int) * 1≤(n:Int) * ls:=Int.mul_le_mul_of_nonneg_left hstp.1 (by omega);omega
      obtain ⟨S,hS⟩:∃ S,(n:Int) * ls=S:=⟨_,rfl⟩;have hws:IntKind.i64.wrap ((n:Int) * ls)=S:=by rw [hS];exact cU S
      have hws2:=cU (4+S);have hwn:=cU (1+(n:Int));have hnS:(n:Int)≤S:=by have h1:(n:Int) * 1≤(n:Int) * ls:=Int.mul_le_mul_of_nonneg_left hstp.1 (by omega);omega
      rw [hS] at HLA HFT hns;have HSS:=aA hS;clear hS;by_cases hnr:0<n∧room=0
      case pos =>
       obtain ⟨hn0,hr0⟩:=hnr;have HEND:Hid (P (.returned (.bool false)) W9):=aA (by
        rw [HP.out];refine bQ HC9.out.st (Exw.of_below HB9.out) ?_;show bM zs (bL (aG ss) es zs room) k r ((l:Int)-1) to left=none;rw [HLA.out,hr0];split
        · show (if (n:Int)=0 then _ else none)=none;rw [if_neg (by omega)]
        · rfl)
       have hn1:(0:Int)<(n:Int):=by omega
       have hr1:((room:Int)==0)=true:=by simp;omega
       clear hr0 hn0;go_wp2;exact HEND.out
      obtain ⟨F,HF⟩:∃ F:Nat→Int→Option (PV × Int),Hid ((∀ q,room=q+1→F=fun (j:Nat) l2=>bV (aG ss) es zs q k r ((l:Int)-1) (to+4+(j:Int) * ls) l2)∧(0<n→∃ q,room=q+1)):=by
       rcases Nat.eq_zero_or_pos room with h0|h0
       · exact ⟨fun _ _=>none,aA ⟨fun q hq=>by omega,fun h=>absurd ⟨h,h0⟩ hnr⟩⟩
       · exact ⟨fun (j:Nat) l2=>bV (aG ss) es zs (room-1) k r ((l:Int)-1) (to+4+(j:Int) * ls) l2,aA ⟨fun q hq=>by rw [show room-1=q by omega],fun _=>⟨room-1,by omega⟩⟩⟩
      have HLB:Hid (bM zs (bL (aG ss) es zs room) k r ((l:Int)-1) to left=if 0≤left-(4+S) then (match eB F (left-(4+S)) n with|none=>none|some (ks,l)=>some (.mk 0 [] ks false,l)) else none):=aA (by
       rw [HLA.out];split
       · rcases Nat.eq_zero_or_pos room with h0|h0
         · have hn0:n=0:=by
            rcases Nat.eq_zero_or_pos n with h1|h1
            · exact h1
            · exact absurd ⟨h1,h0⟩ hnr
           subst hn0;rw [h0];rfl
         · obtain ⟨q,hq⟩:∃ q,room=q+1:=⟨room-1,by omega⟩;rw [HF.out.1 q hq,hq,lN];rfl
       · rfl)
      clear HLA;have hgo:¬(0<n∧(room:Int)=0):=fun h=>hnr ⟨h.1,by omega⟩;have HRE:=aA (iT W9 HC9.out.st (4+S) (by have:=HHL.out;omega));obtain ⟨l2,hl2⟩:∃ l2,left-(4+S)=l2:=⟨_,rfl⟩;rw [hl2] at HRE HLB;have HL2:=aA hl2;clear hl2;by_cases hn0:0<n
      case' pos=>have tn:((0:Int)<(n:Int)):=by omega
      case' pos=>have tr:((room:Int)==0)=false:=by simp;omega
      case' neg=>have tn:¬((0:Int)<(n:Int)):=by omega
      all_goals
       clear hnr hgo;go_wp2_with fail;refine HRE.out.mono ?_;rintro e W10 ⟨rfl,hw10,hx10⟩;have HX10:=aA ((Exw.of_below (R:=wk) (S:=mt) HB9.out).trans (hx10.mono HB9.out.size));have HW10:=aA hw10;have HXX10:=aA hx10;have HQ10:=aA (aL HE1.out hx10 (aD HE1.out) (by have:=HKW.out;have:=HLT.out;have:=HWS1.out;omega) (by have:=HKW.out;have:=HLT.out;have:=HWS1.out;omega));clear hw10 hx10 q0 q1 q2 q3 q4 q5 q6 HRE;obtain ⟨_,q0,q1,q2,q3,q4,q5,q6⟩:=eU HQ10.out;by_cases hl3:0≤l2
       case neg =>
        rw [iB hl3];have HEND:Hid (P (.returned (.bool false)) W10):=aA (by rw [HP.out];exact bQ HW10.out HX10.out (by show bM zs (bL (aG ss) es zs room) k r ((l:Int)-1) to left=none;rw [HLB.out,if_neg hl3]));go_wp2;exact HEND.out
       rw [fO hl3];by_cases hpay:1+(n:Int)≤ml
       case neg =>
        have HPY:=aA (nY W10 HW10.out (1+(n:Int)) (by omega) (by omega));go_wp2_with fail;refine HPY.out.mono ?_;rintro e W11 ⟨rfl,hw11,hx11⟩;have HEND:Hid (P (.returned (.bool false)) W11):=aA (by rw [HP.out];exact eZ hw11 (HX10.out.trans (hx11.mono HX10.out.size)) (by have:=HL2.out;omega));clear hw11 hx11 q0 q1 q2 q3 q4 q5 q6;go_wp2;exact HEND.out
       have HPY:=aA (lT W10 HW10.out (1+(n:Int)) (by omega) (by omega) (by have:=HML.out;omega));go_wp2_with fail;refine HPY.out.mono ?_;rintro e W11 ⟨rfl,hw11,hx11⟩;have HX11:=aA (HX10.out.trans (hx11.mono HX10.out.size));have HQ11:=aA (aL HQ10.out hx11 (aD HQ10.out) (by have:=HKW.out;have:=HLT.out;have:=HWS1.out;omega) (by have:=HKW.out;have:=HLT.out;have:=HWS1.out;omega));have HC11:=aA (HC9.out.exw (l':=l2) (ml':=ml-(1+(n:Int))) (HXX10.out.trans (hx11.mono HXX10.out.size)) hw11 (by have:=HL2.out;omega) (by omega));clear hw11 hx11 q0 q1 q2 q3 q4 q5 q6 HPY;obtain ⟨_,q0,q1,q2,q3,q4,q5,q6⟩:=eU HQ11.out;have HSO:=aA (fun W=>dS k r ((l:Int)-1) W);obtain ⟨so,hso⟩:∃ so,aT k ((l:Int)-1)=so:=⟨_,rfl⟩;have HSOE:=aA hso;simp only [hso] at HSO;clear hso;go_wp2_with fail;refine (HSO.out W11).mono ?_;rintro e W12 ⟨rfl,hb12⟩
       have HX12:=aA (HX11.out.trans ((Exw.of_below (R:=wk) (S:=mt) hb12).mono HX11.out.size));have HQ12:=aA (aE HQ11.out hb12 (aD HQ11.out));have HC12:=aA (HC11.out.below hb12);clear hb12 q0 q1 q2 q3 q4 q5 q6;obtain ⟨_,q0,q1,q2,q3,q4,q5,q6⟩:=eU HQ12.out;have HST:Hid (aCv base w m bp bc sv ev zs ss es fs ns wk mt B F left l2 ml n L #[.pointer (some ⟨m,0,none⟩),.int .u8 k,.int .i64 r,.int .i64 ((l:Int)-1),.int .i64 (to+4),.int .i64 n,.int .i64 ls] (.int .i64 ((0:Nat):Int)) W12):=aA ⟨0,[],l2,ml-(1+(n:Int)),Nat.zero_le _,rfl,rfl,by have:=HL2.out;omega,by omega,by have:=HL2.out;omega,HC12.out,HX12.out,HQ12.out⟩;clear HX10 HX11 HX12 HQ10 HQ11 HQ12 HC11 HC12 HXX10 HW10 HSO;go_wp2_with fail;clear q0 q1 q2 q3 q4 q5 q6
       go_loopw [70] (fun y wr=>aCv base w m bp bc sv ev zs ss es fs ns wk mt B F left l2 ml n L #[.pointer (some ⟨m,0,none⟩),.int .u8 k,.int .i64 r,.int .i64 ((l:Int)-1),.int .i64 (to+4),.int .i64 n,.int .i64 ls] y wr) (fun y _=>n-(intOf y).toNat)
       case atStart=>exact HST.out
       case round =>
        obtain ⟨j,vs,l1,ml1,hj,rfl,hseq,hl1,hml1,h3,hcx,hx,hkb⟩:=hrel;have HSEQ:=aA hseq;have HCX:=aA hcx;have HXW:=aA hx;have HKB:=aA hkb;have H3:=aA h3;clear hseq hcx hx hkb h3;by_cases hjl:j<n
        case neg =>
         obtain rfl:j=n:=by omega
         have HEND:Hid (P (.returned (.bool true)) wr):=aA (by rw [HP.out];refine iU (v:=.mk 0 [] vs false) HCX.out.st HXW.out ?_ hl1.1 hl1.2 hml1.1 hml1.2 H3.out;show bM zs (bL (aG ss) es zs room) k r ((l:Int)-1) to left=_;rw [HLB.out,bG hl3,HSEQ.out]);clear hjl;go_wp2;exact HEND.out
        obtain ⟨q,hq⟩:=HF.out.2 (by omega);have HKQ:=aA (hNX.out q hq);have HFQ:=aA (HF.out.1 q hq);have hrq:(room:Int)-1=(q:Int):=by omega
        have hrq2:IntKind.i64.wrap (q:Int)=(q:Int):=cU _;have hji:(j:Int)<(n:Int):=by omega
        have hjs:0≤(j:Int) * ls∧(j:Int) * ls+ls≤S:=by have h1:0≤(j:Int) * ls:=Int.mul_nonneg (by omega) (by omega);have h2:((j:Int)+1) * ls≤(n:Int) * ls:=Int.mul_le_mul_of_nonneg_right (by omega) (by omega);rw [HSS.out,Int.add_mul,Int.one_mul] at h2;exact ⟨h1,h2⟩
        have HLK:=aA (fun W=>oI W m k r ((l:Int)-1) (to+4) n ls j so hji (by omega) hstp (by omega) HSOE.out);have HIN:Hid (aT k ((l-1:Nat):Int)=1→cV (aH zs) (to+4+(j:Int) * ls) (aP k)=true):=aA (fun hs1=>by rw [HL1.out] at hs1;have h5:=HSTE.out hs1;have h6:=HFT.out;rw [←h5];exact aW.2 (by omega))
        have HKR:=aA (fun W (hW:Below wr.heap.size wr W)=>HKQ.out.run (HCX.out.below hW) k r (l-1) 0 (to+4+(j:Int) * ls) HTY1.out HIN.out);rw [HL1.out] at HKR;unfold kG dD at HLK;unfold dD at HKR;obtain ⟨_,q0,q1,q2,q3,q4,q5,q6⟩:=eU HKB.out;clear hq;go_wp2_with fail;refine (HLK.out _).mono ?_;rintro e W13 ⟨rfl,hb13⟩;have HKR13:=aA (HKR.out W13 hb13);have HX13:=aA (HXW.out.trans ((Exw.of_below (R:=wk) (S:=mt) hb13).mono HXW.out.size));have HQ13:=aA (aE HKB.out hb13 (aD HKB.out));have HC13:=aA (HCX.out.below hb13);clear hb13 q0 q1 q2 q3 q4 q5 q6 HLK HKR;go_wp2_with fail;refine HKR13.out.mono ?_;rintro e W14 hp14;have HX14:=aA (HX13.out.trans (hp14.1.mono HX13.out.size));have HQ14:=aA (aL HQ13.out hp14.1 (aD HQ13.out) (by have:=HKW.out;have:=HLT.out;have:=HWS1.out;omega) (by have:=HKW.out;have:=HLT.out;have:=HWS1.out;omega));have HXL:=aA hp14.1
        rcases hp14.2 with ⟨v',l',ml',hres,hl',rfl,hs',hml',h3'⟩|⟨rfl,o,l',ml',mo,hs',hno,hout⟩
        · have HNEW:Hid (eB F l2 (j+1)=some (vs++[v'],l')):=aA (by rw [bT HSEQ.out,HFQ.out];show (match bV (aG ss) es zs q k r ((l:Int)-1) (to+4+(j:Int) * ls) l1 with|none=>none|some (v,l2)=>some (vs++[v],l2))=_;rw [hres]);have HC14:=aA (HC13.out.exw HXL.out hs' hl' hml');have H33:=aA h3';clear hp14 hres hs' h3';go_wp2;go_roundw
          case rel=>exact ⟨j+1,_,l',ml',by omega,by go_num,HNEW.out,by omega,by omega,fun h=>H33.out (H3.out h),HC14.out,HX14.out,HQ14.out⟩
          case measure=>simp [intOf];omega
        · have HEND:Hid (P (.returned (.bool false)) W14):=aA (by
           rw [HP.out];cases o with
           | false =>
            have hn:eB F l2 n=none:=fD (j:=j+1) (by omega) (by rw [bT HSEQ.out,HFQ.out];show (match bV (aG ss) es zs q k r ((l:Int)-1) (to+4+(j:Int) * ls) l1 with|none=>none|some (v,l2)=>some (vs++[v],l2))=_;rw [hno rfl]);refine bQ hs' HX14.out ?_;show bM zs (bL (aG ss) es zs room) k r ((l:Int)-1) to left=none;rw [HLB.out,bG hl3,hn]
           | true =>
            have h5:=hout rfl;exact eZ hs' HX14.out (by
             rcases Int.lt_or_le ml (3 * left) with h6|h6
             · exact h6
             · have:=H3.out h6;omega))
          clear hp14 hs' hno hout;go_wp2;exact HEND.out
  · rw [bG (by kernel_rfl)];go_simp;have hv1:Below Wh1.heap.size Wh1 ((Wh1.alloc (.cells #[.pointer none,.int .u8 0,.int .i64 0,.int .i64 0,.int .i64 0,.int .i64 0,.int .i64 0] 245)).drew):=((bH _ Wh1).alloc bD _).drew;have hT1:((Wh1.alloc (.cells #[.pointer none,.int .u8 0,.int .i64 0,.int .i64 0,.int .i64 0,.int .i64 0,.int .i64 0] 245)).drew).heap[Wh1.heap.size]?=some (.cells #[.pointer none,.int .u8 0,.int .i64 0,.int .i64 0,.int .i64 0,.int .i64 0,.int .i64 0] 245 (0,0)):=cN Wh1 _;refine hK.out _ _ (fZ hv1 ⟨s0,s1,s2,s3,s4,s5,s6⟩) (fun hS=>?_);generalize (Wh1.alloc (.cells #[.pointer none,.int .u8 0,.int .i64 0,.int .i64 0,.int .i64 0,.int .i64 0,.int .i64 0] 245)).drew=V1 at *;refine bS 7 fun K hK=>?_;go_simp;refine (HEL.out V1).mono ?_;rintro e V2 ⟨rfl,hb2⟩
    have hv2:Below Wh1.heap.size Wh1 V2:=hv1.trans (hb2.mono hv1.size);refine hK.out _ _ (fZ hv2 ⟨s0,s1,s2,s3,s4,s5,s6⟩) (fun hS=>?_);refine bS 8 fun K hK=>?_;go_simp;refine (HFI.out V2 hv2).mono ?_;rintro e V3 ⟨hfp,hb3⟩;have hv3:Below Wh1.heap.size Wh1 V3:=hv2.trans (hb3.mono hv2.size);obtain ⟨lp,lk,lr,ll,la,ln,ls,ok,rfl,hlp1,hval⟩:∃ (lp:Value) (lk lr ll la ln ls:Int) (ok:Bool),e=.returned (.tuple #[.agg #[lp,.int .u8 lk,.int .i64 lr,.int .i64 ll,.int .i64 la,.int .i64 ln,.int .i64 ls],.bool ok])∧lp.oneCell'=true∧((ok=true∧okk=true∧lp=.pointer (some ⟨m,0,none⟩)∧lk=k∧lr=r∧ll=(l:Int)-1∧la=to+4∧ln=n∧ls=st)∨(ok=false∧okk=false)):=by
     rcases hfp with ⟨h1,h2⟩|⟨h1,h2⟩
     · exact ⟨_,_,_,_,_,_,_,_,h2,rfl,.inl ⟨rfl,h1,rfl,rfl,rfl,rfl,rfl,rfl,rfl⟩⟩
     · exact ⟨_,_,_,_,_,_,_,_,h2,rfl,.inr ⟨rfl,h1⟩⟩
    refine hK.out _ _ (fZ hv3 ⟨s0,s1,s2,s3,s4,s5,s6⟩) (fun hS=>?_);refine aK 9 (.tuple #[.agg #[lp,.int .u8 lk,.int .i64 lr,.int .i64 ll,.int .i64 la,.int .i64 ln,.int .i64 ls],.bool ok]) ?_;simp only [td];refine aK 10 (.agg #[lp,.int .u8 lk,.int .i64 lr,.int .i64 ll,.int .i64 la,.int .i64 ln,.int .i64 ls]) ?_;simp only [td];refine aK 11 (.bool ok) ?_;simp only [td];have hT3:=aE (aE hT1 hb2 (aD hT1)) hb3 (aD (aE hT1 hb2 (aD hT1)));have hthere:V3.there (Wh1.heap.size) 0 7:=fun i hi=>by
     have h4:i=0∨i=1∨i=2∨i=3∨i=4∨i=5∨i=6:=by omega
     obtain ⟨_,v0,v1,v2,v3,v4,v5,v6⟩:=eU hT3;rcases h4 with rfl|rfl|rfl|rfl|rfl|rfl|rfl
     · exact ⟨by rw [Nat.add_zero,v0];rfl,aB hT3 _⟩
     · exact ⟨by rw [cX,v1];rfl,aB hT3 _⟩
     · exact ⟨by rw [cX,v2];rfl,aB hT3 _⟩
     · exact ⟨by rw [cX,v3];rfl,aB hT3 _⟩
     · exact ⟨by rw [cX,v4];rfl,aB hT3 _⟩
     · exact ⟨by rw [cX,v5];rfl,aB hT3 _⟩
     · exact ⟨by rw [cX,v6];rfl,aB hT3 _⟩
    refine bS 13 fun K hK=>?_;refine wp_store_mid 245 (.tmp 9) (.tmp 33) rfl (Wh1.heap.size) 0 #[lp,.int .u8 lk,.int .i64 lr,.int .i64 ll,.int .i64 la,.int .i64 ln,.int .i64 ls] rfl rfl hthere (by kernel_rfl) (pW.2 (by intro x hx;simp at hx;rcases hx with rfl|rfl|rfl|rfl|rfl|rfl|rfl<;>first|rfl|exact hlp1)) ?_;change K _ (nN V3 (Wh1.heap.size) lp (.int .u8 lk) (.int .i64 lr) (.int .i64 ll) (.int .i64 la) (.int .i64 ln) (.int .i64 ls));have hTS:Wh1.heap.size≤Wh1.heap.size:=Nat.le_refl _;have hks:∀ (bb o:Nat) (cc:Value),bb<Wh1.heap.size→Wh1.cell? ⟨bb,o,none⟩=some cc→(nN V3 (Wh1.heap.size) lp (.int .u8 lk) (.int .i64 lr) (.int .i64 ll) (.int .i64 la) (.int .i64 ln) (.int .i64 ls)).cell? ⟨bb,o,none⟩=some cc:=fun bb o cc hbb hcc=>aDD (aC hv3 hcc) (by show bb≠_;omega)
    refine hK.out _ _ ⟨hks _ _ _ (cP s0) s0,hks _ _ _ (cP s1) s1,hks _ _ _ (cP s2) s2,hks _ _ _ (cP s3) s3,hks _ _ _ (cP s4) s4,hks _ _ _ (cP s5) s5,hks _ _ _ (cP s6) s6⟩ (fun hS=>?_);refine aK 14 (.bool ok) ?_;simp only [td];refine gA (by kernel_rfl) ?_ _;refine fI ?_;try simp only [Exit.then]
    have HE1:=aA (show (nN V3 (Wh1.heap.size) lp (.int .u8 lk) (.int .i64 lr) (.int .i64 ll) (.int .i64 la) (.int .i64 ln) (.int .i64 ls)).heap[Wh1.heap.size]?=some (.cells #[lp,.int .u8 lk,.int .i64 lr,.int .i64 ll,.int .i64 la,.int .i64 ln,.int .i64 ls] 245 (0,0)) from gQ hT3 _ _ _ _ _ _ _);have HE2:=aA (show Below Wh1.heap.size Wh1 (nN V3 (Wh1.heap.size) lp (.int .u8 lk) (.int .i64 lr) (.int .i64 ll) (.int .i64 la) (.int .i64 ln) (.int .i64 ls)) from fE hv3 hTS _ _ _ _ _ _ _);have HLT:Hid (w.heap.size<Wh1.heap.size):=aA (by have:=HWS1.out;omega);clear hS hks hthere s0 s1 s2 s3 s4 s5 s6 hTS hfp;generalize nN V3 (Wh1.heap.size) lp (.int .u8 lk) (.int .i64 lr) (.int .i64 ll) (.int .i64 la) (.int .i64 ln) (.int .i64 ls)=W9 at *;obtain ⟨L,hL⟩:∃ L,Wh1.heap.size=L:=⟨_,rfl⟩;rw [hL] at HE1 HLT ⊢;clear hL;have HC9:=aA (HC1.out.below HE2.out)
    have HB9:=aA (HB1.out.trans (HE2.out.mono HB1.out.size));rcases hval with ⟨rfl,hokt,rfl,rfl,rfl,rfl,rfl,rfl,rfl⟩|⟨rfl,hokf⟩
    case inr =>
     have HEND:Hid (P (.returned (.bool false)) W9):=aA (by rw [HP.out];exact bQ HC9.out.st (Exw.of_below HB9.out) (HNO.out hokf));clear hokf;obtain ⟨_,q0,q1,q2,q3,q4,q5,q6⟩:=eU HE1.out;go_wp2;exact HEND.out
    obtain ⟨_,q0,q1,q2,q3,q4,q5,q6⟩:=eU HE1.out;have HLA:=aA (HOK.out hokt);have HFT:=aA (aW.1 (HFIT.out hokt));clear hokt HNO HOK HFIT;have hz:aH zs=(zs.length:Int):=rfl;have hns:0≤(n:Int) * ls∧(n:Int) * ls≤16384:=by have:=HFT.out;rw [hz] at this;omega
    have hnn:(n:Int)≤16384:=by have h1:(n:Int) * 1≤(n:Int) * ls:=Int.mul_le_mul_of_nonneg_left hstp.1 (by omega);omega
    obtain ⟨S,hS⟩:∃ S,(n:Int) * ls=S:=⟨_,rfl⟩;have hws:IntKind.i64.wrap ((n:Int) * ls)=S:=by rw [hS];exact cU S
    have hws2:=cU (4+S);have hwn:=cU (1+(n:Int));have hnS:(n:Int)≤S:=by have h1:(n:Int) * 1≤(n:Int) * ls:=Int.mul_le_mul_of_nonneg_left hstp.1 (by omega);omega
    rw [hS] at HLA HFT hns;have HSS:=aA hS;clear hS;by_cases hnr:0<n∧room=0
    case pos =>
     obtain ⟨hn0,hr0⟩:=hnr;have HEND:Hid (P (.returned (.bool false)) W9):=aA (by
      rw [HP.out];refine bQ HC9.out.st (Exw.of_below HB9.out) ?_;show bM zs (bL (aG ss) es zs room) k r ((l:Int)-1) to left=none;rw [HLA.out,hr0];split
      · show (if (n:Int)=0 then _ else none)=none;rw [if_neg (by omega)]
      · rfl)
     have hn1:(0:Int)<(n:Int):=by omega
     have hr1:((room:Int)==0)=true:=by simp;omega
     clear hr0 hn0;go_wp2;exact HEND.out
    obtain ⟨F,HF⟩:∃ F:Nat→Int→Option (PV × Int),Hid ((∀ q,room=q+1→F=fun (j:Nat) l2=>bV (aG ss) es zs q k r ((l:Int)-1) (to+4+(j:Int) * ls) l2)∧(0<n→∃ q,room=q+1)):=by
     rcases Nat.eq_zero_or_pos room with h0|h0
     · exact ⟨fun _ _=>none,aA ⟨fun q hq=>by omega,fun h=>absurd ⟨h,h0⟩ hnr⟩⟩
     · exact ⟨fun (j:Nat) l2=>bV (aG ss) es zs (room-1) k r ((l:Int)-1) (to+4+(j:Int) * ls) l2,aA ⟨fun q hq=>by rw [show room-1=q by omega],fun _=>⟨room-1,by omega⟩⟩⟩
    have HLB:Hid (bM zs (bL (aG ss) es zs room) k r ((l:Int)-1) to left=if 0≤left-(4+S) then (match eB F (left-(4+S)) n with|none=>none|some (ks,l)=>some (.mk 0 [] ks false,l)) else none):=aA (by
     rw [HLA.out];split
     · rcases Nat.eq_zero_or_pos room with h0|h0
       · have hn0:n=0:=by
          rcases Nat.eq_zero_or_pos n with h1|h1
          · exact h1
          · exact absurd ⟨h1,h0⟩ hnr
         subst hn0;rw [h0];rfl
       · obtain ⟨q,hq⟩:∃ q,room=q+1:=⟨room-1,by omega⟩;rw [HF.out.1 q hq,hq,lN];rfl
     · rfl)
    clear HLA;have hgo:¬(0<n∧(room:Int)=0):=fun h=>hnr ⟨h.1,by omega⟩;have HRE:=aA (iT W9 HC9.out.st (4+S) (by have:=HHL.out;omega));obtain ⟨l2,hl2⟩:∃ l2,left-(4+S)=l2:=⟨_,rfl⟩;rw [hl2] at HRE HLB;have HL2:=aA hl2;clear hl2;by_cases hn0:0<n
    case' pos=>have tn:((0:Int)<(n:Int)):=by omega
    case' pos=>have tr:((room:Int)==0)=false:=by simp;omega
    case' neg=>have tn:¬((0:Int)<(n:Int)):=by omega
    all_goals
     clear hnr hgo;go_wp2_with fail;refine HRE.out.mono ?_;rintro e W10 ⟨rfl,hw10,hx10⟩;have HX10:=aA ((Exw.of_below (R:=wk) (S:=mt) HB9.out).trans (hx10.mono HB9.out.size));have HW10:=aA hw10;have HXX10:=aA hx10;have HQ10:=aA (aL HE1.out hx10 (aD HE1.out) (by have:=HKW.out;have:=HLT.out;have:=HWS1.out;omega) (by have:=HKW.out;have:=HLT.out;have:=HWS1.out;omega));clear hw10 hx10 q0 q1 q2 q3 q4 q5 q6 HRE;obtain ⟨_,q0,q1,q2,q3,q4,q5,q6⟩:=eU HQ10.out;by_cases hl3:0≤l2
     case neg =>
      rw [iB hl3];have HEND:Hid (P (.returned (.bool false)) W10):=aA (by rw [HP.out];exact bQ HW10.out HX10.out (by show bM zs (bL (aG ss) es zs room) k r ((l:Int)-1) to left=none;rw [HLB.out,if_neg hl3]));go_wp2;exact HEND.out
     rw [fO hl3];by_cases hpay:1+(n:Int)≤ml
     case neg =>
      have HPY:=aA (nY W10 HW10.out (1+(n:Int)) (by omega) (by omega));go_wp2_with fail;refine HPY.out.mono ?_;rintro e W11 ⟨rfl,hw11,hx11⟩;have HEND:Hid (P (.returned (.bool false)) W11):=aA (by rw [HP.out];exact eZ hw11 (HX10.out.trans (hx11.mono HX10.out.size)) (by have:=HL2.out;omega));clear hw11 hx11 q0 q1 q2 q3 q4 q5 q6;go_wp2;exact HEND.out
     have HPY:=aA (lT W10 HW10.out (1+(n:Int)) (by omega) (by omega) (by have:=HML.out;omega));go_wp2_with fail;refine HPY.out.mono ?_;rintro e W11 ⟨rfl,hw11,hx11⟩;have HX11:=aA (HX10.out.trans (hx11.mono HX10.out.size));have HQ11:=aA (aL HQ10.out hx11 (aD HQ10.out) (by have:=HKW.out;have:=HLT.out;have:=HWS1.out;omega) (by have:=HKW.out;have:=HLT.out;have:=HWS1.out;omega));have HC11:=aA (HC9.out.exw (l':=l2) (ml':=ml-(1+(n:Int))) (HXX10.out.trans (hx11.mono HXX10.out.size)) hw11 (by have:=HL2.out;omega) (by omega));clear hw11 hx11 q0 q1 q2 q3 q4 q5 q6 HPY;obtain ⟨_,q0,q1,q2,q3,q4,q5,q6⟩:=eU HQ11.out;have HSO:=aA (fun W=>dS k r ((l:Int)-1) W);obtain ⟨so,hso⟩:∃ so,aT k ((l:Int)-1)=so:=⟨_,rfl⟩;have HSOE:=aA hso;simp only [hso] at HSO;clear hso;go_wp2_with fail;refine (HSO.out W11).mono ?_;rintro e W12 ⟨rfl,hb12⟩
     have HX12:=aA (HX11.out.trans ((Exw.of_below (R:=wk) (S:=mt) hb12).mono HX11.out.size));have HQ12:=aA (aE HQ11.out hb12 (aD HQ11.out));have HC12:=aA (HC11.out.below hb12);clear hb12 q0 q1 q2 q3 q4 q5 q6;obtain ⟨_,q0,q1,q2,q3,q4,q5,q6⟩:=eU HQ12.out;have HST:Hid (aCv base w m bp bc sv ev zs ss es fs ns wk mt B F left l2 ml n L #[.pointer (some ⟨m,0,none⟩),.int .u8 k,.int .i64 r,.int .i64 ((l:Int)-1),.int .i64 (to+4),.int .i64 n,.int .i64 ls] (.int .i64 ((0:Nat):Int)) W12):=aA ⟨0,[],l2,ml-(1+(n:Int)),Nat.zero_le _,rfl,rfl,by have:=HL2.out;omega,by omega,by have:=HL2.out;omega,HC12.out,HX12.out,HQ12.out⟩;clear HX10 HX11 HX12 HQ10 HQ11 HQ12 HC11 HC12 HXX10 HW10 HSO;go_wp2_with fail;clear q0 q1 q2 q3 q4 q5 q6
     go_loopw [70] (fun y wr=>aCv base w m bp bc sv ev zs ss es fs ns wk mt B F left l2 ml n L #[.pointer (some ⟨m,0,none⟩),.int .u8 k,.int .i64 r,.int .i64 ((l:Int)-1),.int .i64 (to+4),.int .i64 n,.int .i64 ls] y wr) (fun y _=>n-(intOf y).toNat)
     case atStart=>exact HST.out
     case round =>
      obtain ⟨j,vs,l1,ml1,hj,rfl,hseq,hl1,hml1,h3,hcx,hx,hkb⟩:=hrel;have HSEQ:=aA hseq;have HCX:=aA hcx;have HXW:=aA hx;have HKB:=aA hkb;have H3:=aA h3;clear hseq hcx hx hkb h3;by_cases hjl:j<n
      case neg =>
       obtain rfl:j=n:=by omega
       have HEND:Hid (P (.returned (.bool true)) wr):=aA (by rw [HP.out];refine iU (v:=.mk 0 [] vs false) HCX.out.st HXW.out ?_ hl1.1 hl1.2 hml1.1 hml1.2 H3.out;show bM zs (bL (aG ss) es zs room) k r ((l:Int)-1) to left=_;rw [HLB.out,bG hl3,HSEQ.out]);clear hjl;go_wp2;exact HEND.out
      obtain ⟨q,hq⟩:=HF.out.2 (by omega);have HKQ:=aA (hNX.out q hq);have HFQ:=aA (HF.out.1 q hq);have hrq:(room:Int)-1=(q:Int):=by omega
      have hrq2:IntKind.i64.wrap (q:Int)=(q:Int):=cU _;have hji:(j:Int)<(n:Int):=by omega
      have hjs:0≤(j:Int) * ls∧(j:Int) * ls+ls≤S:=by have h1:0≤(j:Int) * ls:=Int.mul_nonneg (by omega) (by omega);have h2:((j:Int)+1) * ls≤(n:Int) * ls:=Int.mul_le_mul_of_nonneg_right (by omega) (by omega);rw [HSS.out,Int.add_mul,Int.one_mul] at h2;exact ⟨h1,h2⟩
      have HLK:=aA (fun W=>oI W m k r ((l:Int)-1) (to+4) n ls j so hji (by omega) hstp (by omega) HSOE.out);have HIN:Hid (aT k ((l-1:Nat):Int)=1→cV (aH zs) (to+4+(j:Int) * ls) (aP k)=true):=aA (fun hs1=>by rw [HL1.out] at hs1;have h5:=HSTE.out hs1;have h6:=HFT.out;rw [←h5];exact aW.2 (by omega))
      have HKR:=aA (fun W (hW:Below wr.heap.size wr W)=>HKQ.out.run (HCX.out.below hW) k r (l-1) 0 (to+4+(j:Int) * ls) HTY1.out HIN.out);rw [HL1.out] at HKR;unfold kG dD at HLK;unfold dD at HKR;obtain ⟨_,q0,q1,q2,q3,q4,q5,q6⟩:=eU HKB.out;clear hq;go_wp2_with fail;refine (HLK.out _).mono ?_;rintro e W13 ⟨rfl,hb13⟩;have HKR13:=aA (HKR.out W13 hb13);have HX13:=aA (HXW.out.trans ((Exw.of_below (R:=wk) (S:=mt) hb13).mono HXW.out.size));have HQ13:=aA (aE HKB.out hb13 (aD HKB.out));have HC13:=aA (HCX.out.below hb13);clear hb13 q0 q1 q2 q3 q4 q5 q6 HLK HKR;go_wp2_with fail;refine HKR13.out.mono ?_;rintro e W14 hp14;have HX14:=aA (HX13.out.trans (hp14.1.mono HX13.out.size));have HQ14:=aA (aL HQ13.out hp14.1 (aD HQ13.out) (by have:=HKW.out;have:=HLT.out;have:=HWS1.out;omega) (by have:=HKW.out;have:=HLT.out;have:=HWS1.out;omega));have HXL:=aA hp14.1
      rcases hp14.2 with ⟨v',l',ml',hres,hl',rfl,hs',hml',h3'⟩|⟨rfl,o,l',ml',mo,hs',hno,hout⟩
      · have HNEW:Hid (eB F l2 (j+1)=some (vs++[v'],l')):=aA (by rw [bT HSEQ.out,HFQ.out];show (match bV (aG ss) es zs q k r ((l:Int)-1) (to+4+(j:Int) * ls) l1 with|none=>none|some (v,l2)=>some (vs++[v],l2))=_;rw [hres]);have HC14:=aA (HC13.out.exw HXL.out hs' hl' hml');have H33:=aA h3';clear hp14 hres hs' h3';go_wp2;go_roundw
        case rel=>exact ⟨j+1,_,l',ml',by omega,by go_num,HNEW.out,by omega,by omega,fun h=>H33.out (H3.out h),HC14.out,HX14.out,HQ14.out⟩
        case measure=>simp [intOf];omega
      · have HEND:Hid (P (.returned (.bool false)) W14):=aA (by
         rw [HP.out];cases o with
         | false =>
          have hn:eB F l2 n=none:=fD (j:=j+1) (by omega) (by rw [bT HSEQ.out,HFQ.out];show (match bV (aG ss) es zs q k r ((l:Int)-1) (to+4+(j:Int) * ls) l1 with|none=>none|some (v,l2)=>some (vs++[v],l2))=_;rw [hno rfl]);refine bQ hs' HX14.out ?_;show bM zs (bL (aG ss) es zs room) k r ((l:Int)-1) to left=none;rw [HLB.out,bG hl3,hn]
         | true =>
          have h5:=hout rfl;exact eZ hs' HX14.out (by
           rcases Int.lt_or_le ml (3 * left) with h6|h6
           · exact h6
           · have:=H3.out h6;omega))
        clear hp14 hs' hno hout;go_wp2;exact HEND.out
end Go.Proofs.YtpbaaiilfkacnaaDoor
