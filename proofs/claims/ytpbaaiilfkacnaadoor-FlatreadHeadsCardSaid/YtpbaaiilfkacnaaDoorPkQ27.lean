/-
  Views and lists as interface values, whatever stands behind them: what it means that one shows a value. Conditions: those that each theorem names.
-/
import Derived.Test.YtpbaaiilfkacnaaDoorPkQ24
namespace Go.Proofs.YtpbaaiilfkacnaaDoor
open Go.ChangeShapes Go.WideShapes Go.ChangeAt Go.RowKit Go.Shelf
set_option maxRecDepth 100000
set_option maxHeartbeats 16000000
theorem iV {res:Option (PV × Int)}{wk m mt:Nat}{left ml:Int}{w W:World}{e:Ending}(h:gG res wk m mt left ml w e W):∃ b,e=.returned (.bool b):=by
 rcases h.2 with ⟨_,_,_,_,_,he,_⟩|⟨he,_⟩
 · exact ⟨_,he⟩
 · exact ⟨_,he⟩
theorem nJ {a b c d e f a' b' c' d' e' f':Value}(h:Value.agg #[a,b,c,d,e,f]=.agg #[a',b',c',d',e',f']):a=a'∧b=b'∧c=c'∧d=d'∧e=e'∧f=f':=by injection h with h;have e0:=congrArg (fun x:Array Value=>x[0]?) h;have e1:=congrArg (fun x:Array Value=>x[1]?) h;have e2:=congrArg (fun x:Array Value=>x[2]?) h;have e3:=congrArg (fun x:Array Value=>x[3]?) h;have e4:=congrArg (fun x:Array Value=>x[4]?) h;have e5:=congrArg (fun x:Array Value=>x[5]?) h;simp at e0 e1 e2 e3 e4 e5;exact ⟨e0,e1,e2,e3,e4,e5⟩
theorem oF {zs:List Int}{m:Nat}{ref at':Int}{e:Ending}{ss:List cO}{nx:Option jL}{left:Int}(h:sJ zs m ref at' true e):∃ (p:Value) (rr a b c dd:Int) (ok:Bool),e=.returned (.tuple #[.agg #[p,.int .i64 rr,.int .i64 a,.int .i64 b,.int .i64 c,.int .i64 dd],.bool ok])∧p.oneCell'=true ∧
  ((ok=true∧∃ to t,fM zs at'=some to∧gX zs to=some t∧Value.agg #[p,.int .i64 rr,.int .i64 a,.int .i64 b,.int .i64 c,.int .i64 dd]=jT m ref t to)∨(ok=false∧(cM zs at' fun to=>cC ss zs nx ref to left)=none)):=by
 rcases h with ⟨to,t,_,hj,ht,rfl⟩|⟨hn,p,r,a,b,c,d,rfl⟩
 · exact ⟨_,_,_,_,_,_,true,rfl,rfl,.inl ⟨rfl,to,t,hj,ht,rfl⟩⟩
 · refine ⟨.pointer p,r,a,b,c,d,false,rfl,rfl,.inr ⟨rfl,?_⟩⟩
   · unfold cM;cases hj:fM zs at' with
     | none=>rfl
     | some to=>exact lG (hn rfl to hj)
theorem uS (room:Nat)(hSt:oA room)(hLi:xF room):tZ room:=by
 constructor;intro base w m bp bc sv ev zs ss es fs ns wk mt B left ml h k r l d at' hty hin;have hb:=(bH w.heap.size w).alloc bD (.cells #[.int .u8 k,.int .i64 r,.int .i64 l,.int .i64 at',.int .u64 d,.bool true] 182);have HB:=aA hb;have HC:=aA (h.below hb);have HX:=aA (cN w (.cells #[.int .u8 k,.int .i64 r,.int .i64 l,.int .i64 at',.int .u64 d,.bool true] 182));have HWS:Hid (w.heap.size<(w.alloc (.cells #[.int .u8 k,.int .i64 r,.int .i64 l,.int .i64 at',.int .u64 d,.bool true] 182)).heap.size):=aA (aD HX.out);have HST:Hid (oA room):=aA hSt;have HLI:Hid (xF room):=aA hLi;obtain ⟨P,hP⟩:∃ P,gG (bV (aG ss) es zs room k r l at' left) wk m mt left ml w=P:=⟨_,rfl⟩;rw [hP];have HP:=aA (hP.symm.trans (by rw [iE]));clear hP hSt hLi hb h;unfold dD;have hs:=jG hty;have HTY:=aA hty;have HIN:=aA hin;clear hty hin
 rcases hs with ⟨hl,hs⟩|⟨rfl,hk,hk10,hs⟩|⟨rfl,hk,hs⟩|⟨rfl,rfl,hs⟩
 · have hS0:=aA hs;have hl0:=hl;go_enter Tryd.func115,Tryd.ntmps115;go_upto_region 1 with (fail);generalize w.alloc (.cells #[.int .u8 k,.int .i64 r,.int .i64 l,.int .i64 at',.int .u64 d,.bool true] 182)=W0 at *;obtain ⟨_,s1,s2,s3,s4,s5,s6⟩:=bB HX.out;go_wp2_with fail;refine (dS k r l W0).mono ?_;rintro e W1 ⟨rfl,hb1⟩;have HB1:=aA (HB.out.trans (hb1.mono HB.out.size));have HC1:=aA (HC.out.below hb1);have HX1:=aA (aE HX.out hb1 (aD HX.out));have HS1:Hid (w.heap.size<W1.heap.size):=aA (aD HX1.out);clear hb1 s1 s2 s3 s4 s5 s6;obtain ⟨_,s1,s2,s3,s4,s5,s6⟩:=bB HX1.out;rw [hs];clear hs;have HRES:Hid (mC (aG ss) es zs (bL (aG ss) es zs room) k r l at' left=cM zs at' fun to=>bM zs (bL (aG ss) es zs room) k r ((l:Int)-1) to left):=aA (by unfold mC;rw [hS0.out];rfl)
   have HLIFT:Hid (∀ e W,gG (cM zs at' fun to=>bM zs (bL (aG ss) es zs room) k r ((l:Int)-1) to left) wk m mt left ml W1 e W→P e W):=aA (fun e W hp=>by rw [HP.out,HRES.out];exact ⟨(Exw.of_below (R:=wk) (S:=mt) HB1.out).trans (hp.1.mono HB1.out.size),hp.2⟩);go_wp2_with fail;refine (HLI.out.run HC1.out k r l d at' HTY.out hl0).mono ?_;rintro e W2 hp;have HPE:=aA (HLIFT.out e W2 hp);obtain ⟨b,rfl⟩:=iV hp;clear hp s1 s2 s3 s4 s5 s6;go_wp2;exact HPE.out
 · have hS0:=aA hs;go_enter Tryd.func115,Tryd.ntmps115;go_upto_region 1 with (fail);generalize w.alloc (.cells #[.int .u8 k,.int .i64 r,.int .i64 ((0:Nat):Int),.int .i64 at',.int .u64 d,.bool true] 182)=W0 at *;obtain ⟨_,s1,s2,s3,s4,s5,s6⟩:=bB HX.out;go_wp2_with fail;refine (dS k r ((0:Nat):Int) W0).mono ?_;rintro e W1 ⟨rfl,hb1⟩;have HB1:=aA (HB.out.trans (hb1.mono HB.out.size));have HC1:=aA (HC.out.below hb1);have HX1:=aA (aE HX.out hb1 (aD HX.out));have HS1:Hid (w.heap.size<W1.heap.size):=aA (aD HX1.out);clear hb1 s1 s2 s3 s4 s5 s6;obtain ⟨_,s1,s2,s3,s4,s5,s6⟩:=bB HX1.out;rw [hs];clear hs;have HRES:Hid (mC (aG ss) es zs (bL (aG ss) es zs room) k r ((0:Nat):Int) at' left=oK es zs k r at' left):=aA (by unfold mC;rw [hS0.out];rfl)
   have HLIFT:Hid (∀ e W,gG (oK es zs k r at' left) wk m mt left ml W1 e W→P e W):=aA (fun e W hp=>by rw [HP.out,HRES.out];exact ⟨(Exw.of_below (R:=wk) (S:=mt) HB1.out).trans (hp.1.mono HB1.out.size),hp.2⟩);go_wp2_with fail;refine (aCI W1 HC1.out.msg HC1.out.st HC1.out.hl.1 HC1.out.hml.1 k r d at' hk (fun e=>(HTY.out.en e).1) (HIN.out hS0.out)).mono ?_;rintro e W2 hp;have HPE:=aA (HLIFT.out e W2 hp);obtain ⟨b,rfl⟩:=iV hp;clear hp s1 s2 s3 s4 s5 s6;go_wp2;exact HPE.out
 · have hS0:=aA hs;go_enter Tryd.func115,Tryd.ntmps115;go_upto_region 1 with (fail);generalize w.alloc (.cells #[.int .u8 k,.int .i64 r,.int .i64 ((0:Nat):Int),.int .i64 at',.int .u64 d,.bool true] 182)=W0 at *;obtain ⟨_,s1,s2,s3,s4,s5,s6⟩:=bB HX.out;go_wp2_with fail;refine (dS k r ((0:Nat):Int) W0).mono ?_;rintro e W1 ⟨rfl,hb1⟩;have HB1:=aA (HB.out.trans (hb1.mono HB.out.size));have HC1:=aA (HC.out.below hb1);have HX1:=aA (aE HX.out hb1 (aD HX.out));have HS1:Hid (w.heap.size<W1.heap.size):=aA (aD HX1.out);clear hb1 s1 s2 s3 s4 s5 s6;obtain ⟨_,s1,s2,s3,s4,s5,s6⟩:=bB HX1.out;rw [hs];clear hs;have HRES:Hid (mC (aG ss) es zs (bL (aG ss) es zs room) k r ((0:Nat):Int) at' left=cM zs at' fun to=>dH zs k to left):=aA (by unfold mC;rw [hS0.out];rfl)
   have HLIFT:Hid (∀ e W,gG (cM zs at' fun to=>dH zs k to left) wk m mt left ml W1 e W→P e W):=aA (fun e W hp=>by rw [HP.out,HRES.out];exact ⟨(Exw.of_below (R:=wk) (S:=mt) HB1.out).trans (hp.1.mono HB1.out.size),hp.2⟩);go_wp2_with fail;refine (aAf W1 HC1.out.msg HC1.out.st HC1.out.hl HC1.out.hml HC1.out.hB HC1.out.amb k r d at').mono ?_;rintro e W2 hp;have HPE:=aA (HLIFT.out e W2 hp);obtain ⟨b,rfl⟩:=iV hp;clear hp s1 s2 s3 s4 s5 s6;go_wp2;exact HPE.out
 · have hS0:=aA hs;have hrr:=HTY.out.st rfl;go_enter Tryd.func115,Tryd.ntmps115;go_upto_region 1 with (fail);generalize w.alloc (.cells #[.int .u8 ((13:Nat):Int),.int .i64 r,.int .i64 ((0:Nat):Int),.int .i64 at',.int .u64 d,.bool true] 182)=W0 at *;obtain ⟨_,s1,s2,s3,s4,s5,s6⟩:=bB HX.out;go_wp2_with fail;refine (dS 13 r ((0:Nat):Int) W0).mono ?_;rintro e W1 ⟨rfl,hb1⟩;have HB1:=aA (HB.out.trans (hb1.mono HB.out.size));have HC1:=aA (HC.out.below hb1);have HX1:=aA (aE HX.out hb1 (aD HX.out));have HS1:Hid (w.heap.size<W1.heap.size):=aA (aD HX1.out);clear hb1 s1 s2 s3 s4 s5 s6;obtain ⟨_,s1,s2,s3,s4,s5,s6⟩:=bB HX1.out;rw [hs];clear hs
   have HRES:Hid (mC (aG ss) es zs (bL (aG ss) es zs room) 13 r ((0:Nat):Int) at' left=cM zs at' fun to=>cC (aG ss) zs (bL (aG ss) es zs room) r to left):=aA (by unfold mC;rw [hS0.out];rfl);have HPT:=aA (fun W (hW:Below W1.heap.size W1 W)=>iJ W (HC1.out.below hW).msg.msg 13 r ((0:Nat):Int) at' d true);unfold dD at HPT;obtain ⟨_,s0,_,_,_⟩:=kH HC1.out.st.walk;go_upto_region 9 with (fail);refine gL ?_;refine qM s0 s1 s2 s3 s4 s5 s6 ?_;intro hS;refine aK 0 (.pointer (some ⟨wk,0,none⟩)) ?_;simp only [td];refine aK 1 (.pointer (some ⟨wk,0,none⟩)) ?_;simp only [td];refine aK 2 (.pointer (some ⟨wk,0,none⟩)) ?_;simp only [td];refine aK 3 (.pointer (some ⟨m,0,none⟩)) ?_;simp only [td];refine aK 4 (.agg #[.int .u8 ((13:Nat):Int),.int .i64 r,.int .i64 ((0:Nat):Int),.int .i64 at',.int .u64 d,.bool true]) ?_;simp only [td]
   refine wpAnyH_ready (rs:=[5,9]) (by kernel_rfl) (by decide) (AllReadyH.cons rfl (fun K hK=>?_) (AllReadyH.cons rfl (fun K hK=>?_) lY))
   · rw [bG (by kernel_rfl)];go_simp;refine (HPT.out W1.drew ((bH _ W1).drew)).mono ?_;rintro e V2 ⟨hpt,hb2⟩;have hx2:Below W1.heap.size W1 V2:=(bH _ W1).drew.trans hb2;obtain ⟨p,rr,a,b,c,dd,ok,rfl,hp1,hok⟩:=oF (ss:=aG ss) (nx:=bL (aG ss) es zs room) (left:=left) hpt;refine hK.out _ _ (fZ hx2 ⟨s0,s1,s2,s3,s4,s5,s6⟩) (fun hS=>?_);refine aK 6 (.tuple #[.agg #[p,.int .i64 rr,.int .i64 a,.int .i64 b,.int .i64 c,.int .i64 dd],.bool ok]) ?_;simp only [td];refine aK 7 (.agg #[p,.int .i64 rr,.int .i64 a,.int .i64 b,.int .i64 c,.int .i64 dd]) ?_;simp only [td];refine aK 8 (.bool ok) ?_;simp only [td];refine bS 9 fun K hK=>?_;go_simp;have hx3:Below W1.heap.size W1 (V2.alloc (.cells #[.pointer none,.int .i64 0,.int .i64 0,.int .i64 0,.int .i64 0,.int .i64 0] 142)):=hx2.alloc hx2.size _
     have hT3:=cN V2 (.cells #[.pointer none,.int .i64 0,.int .i64 0,.int .i64 0,.int .i64 0,.int .i64 0] 142);have hTS:W1.heap.size≤V2.heap.size:=hx2.size;refine hK.out _ _ (fZ hx3 ⟨s0,s1,s2,s3,s4,s5,s6⟩) (fun hS=>?_);generalize V2.alloc (.cells #[.pointer none,.int .i64 0,.int .i64 0,.int .i64 0,.int .i64 0,.int .i64 0] 142)=V3 at *;generalize V2.heap.size=T0 at *;have hthere:V3.there T0 0 6:=fun i hi=>by
      have h4:i=0∨i=1∨i=2∨i=3∨i=4∨i=5:=by omega
      obtain ⟨_,v0,v1,v2,v3,v4,v5⟩:=bB hT3;rcases h4 with rfl|rfl|rfl|rfl|rfl|rfl
      · exact ⟨by rw [Nat.add_zero,v0];rfl,aB hT3 _⟩
      · exact ⟨by rw [cX,v1];rfl,aB hT3 _⟩
      · exact ⟨by rw [cX,v2];rfl,aB hT3 _⟩
      · exact ⟨by rw [cX,v3];rfl,aB hT3 _⟩
      · exact ⟨by rw [cX,v4];rfl,aB hT3 _⟩
      · exact ⟨by rw [cX,v5];rfl,aB hT3 _⟩
     refine bS 10 fun K hK=>?_;refine wp_store_mid 142 (.tmp 7) (.tmp 37) rfl (T0) 0 #[p,.int .i64 rr,.int .i64 a,.int .i64 b,.int .i64 c,.int .i64 dd] rfl rfl hthere (by kernel_rfl) (pW.2 (by intro x hx;simp at hx;rcases hx with rfl|rfl|rfl|rfl|rfl|rfl<;>first|rfl|exact hp1)) ?_;change K _ (bR V3 (T0) p (.int .i64 rr) (.int .i64 a) (.int .i64 b) (.int .i64 c) (.int .i64 dd));have hks:∀ (bb o:Nat) (cc:Value),bb<W1.heap.size→W1.cell? ⟨bb,o,none⟩=some cc→(bR V3 (T0) p (.int .i64 rr) (.int .i64 a) (.int .i64 b) (.int .i64 c) (.int .i64 dd)).cell? ⟨bb,o,none⟩=some cc:=fun bb o cc hbb hcc=>gN (aC hx3 hcc) (by show bb≠_;omega);refine hK.out _ _ ⟨hks _ _ _ (cP s0) s0,hks _ _ _ (cP s1) s1,hks _ _ _ (cP s2) s2,hks _ _ _ (cP s3) s3,hks _ _ _ (cP s4) s4,hks _ _ _ (cP s5) s5,hks _ _ _ (cP s6) s6⟩ (fun hS=>?_);refine aK 11 (.bool ok) ?_;simp only [td]
     refine gA (by kernel_rfl) ?_ _;refine fI ?_;try simp only [Exit.then]
     have HE1:=aA (show (bR V3 (T0) p (.int .i64 rr) (.int .i64 a) (.int .i64 b) (.int .i64 c) (.int .i64 dd)).heap[T0]?=some (.cells #[p,.int .i64 rr,.int .i64 a,.int .i64 b,.int .i64 c,.int .i64 dd] 142 (0,0)) from cT hT3 _ _ _ _ _ _);have HE2:=aA (show Below W1.heap.size W1 (bR V3 (T0) p (.int .i64 rr) (.int .i64 a) (.int .i64 b) (.int .i64 c) (.int .i64 dd)) from cI hx3 (by omega) _ _ _ _ _ _);clear hS hks hthere s0 s1 s2 s3 s4 s5 s6;generalize bR V3 (T0) p (.int .i64 rr) (.int .i64 a) (.int .i64 b) (.int .i64 c) (.int .i64 dd)=W9 at *;generalize hTT:T0=T at *;clear hTT;obtain ⟨_,q0,q1,q2,q3,q4,q5⟩:=bB HE1.out;have HC9:=aA (HC1.out.below HE2.out);have HXB:=aA ((Exw.of_below (R:=wk) (S:=mt) HB1.out).trans ((Exw.of_below (R:=wk) (S:=mt) HE2.out).mono HB1.out.size));cases ok with
     | false =>
      have HEND:Hid (P (.returned (.bool false)) W9):=aA (by
       rw [HP.out,HRES.out];refine bQ HC9.out.st HXB.out ?_;rcases hok with ⟨h1,_⟩|⟨_,h1⟩
       · cases h1
       · exact h1)
      go_wp2;exact HEND.out
     | true =>
      rcases hok with ⟨_,to,t,hj,ht,hval⟩|⟨h1,_⟩
      case inr=>cases h1
      obtain ⟨e0,e1,e2,e3,e4,e5⟩:=nJ hval;injection e1 with _ e1;injection e2 with _ e2;injection e3 with _ e3;injection e4 with _ e4;injection e5 with _ e5;subst e0 e1 e2 e3 e4 e5;have hjb:=gV HC1.out.msg.msg.bytes.1 hj;have hlen:=HC1.out.msg.msg.len;have hlz:aH zs=(zs.length:Int):=rfl;have HSC:=aA (HST.out.run HC9.out r t a hrr ht (by omega));unfold jT at HSC;have HLIFT:Hid (∀ e W,gG (iM (aG ss) zs (bL (aG ss) es zs room) r a t left) wk m mt left ml W9 e W→P e W):=aA (fun e W hp=>by
       rw [HP.out,HRES.out];have he:(cM zs at' fun to=>cC (aG ss) zs (bL (aG ss) es zs room) r to left)=iM (aG ss) zs (bL (aG ss) es zs room) r a t left:=by unfold cM;rw [hj];exact fG ht
       rw [he];exact ⟨HXB.out.trans (hp.1.mono HXB.out.size),hp.2⟩)
      clear hjb hlen hlz hj ht hval hpt;go_wp2_with fail;refine HSC.out.mono ?_;rintro e W2 hp;have HPE:=aA (HLIFT.out e W2 hp);obtain ⟨b,rfl⟩:=iV hp;clear hp q0 q1 q2 q3 q4 q5;go_wp2;exact HPE.out
   · rw [bG (by kernel_rfl)];go_simp;have hx2:Below W1.heap.size W1 ((W1.alloc (.cells #[.pointer none,.int .i64 0,.int .i64 0,.int .i64 0,.int .i64 0,.int .i64 0] 142)).drew):=((bH _ W1).alloc bD _).drew;have hT2:((W1.alloc (.cells #[.pointer none,.int .i64 0,.int .i64 0,.int .i64 0,.int .i64 0,.int .i64 0] 142)).drew).heap[W1.heap.size]?=some (.cells #[.pointer none,.int .i64 0,.int .i64 0,.int .i64 0,.int .i64 0,.int .i64 0] 142 (0,0)):=cN W1 _;refine hK.out _ _ (fZ hx2 ⟨s0,s1,s2,s3,s4,s5,s6⟩) (fun hS=>?_);generalize (W1.alloc (.cells #[.pointer none,.int .i64 0,.int .i64 0,.int .i64 0,.int .i64 0,.int .i64 0] 142)).drew=V2 at *;have hTS:W1.heap.size≤W1.heap.size:=Nat.le_refl _;refine bS 5 fun K hK=>?_;go_simp;refine (HPT.out V2 hx2).mono ?_;rintro e V3 ⟨hpt,hb3⟩
     have hx3:Below W1.heap.size W1 V3:=hx2.trans (hb3.mono hx2.size);have hT3:=aE hT2 hb3 (aD hT2);obtain ⟨p,rr,a,b,c,dd,ok,rfl,hp1,hok⟩:=oF (ss:=aG ss) (nx:=bL (aG ss) es zs room) (left:=left) hpt;refine hK.out _ _ (fZ hx3 ⟨s0,s1,s2,s3,s4,s5,s6⟩) (fun hS=>?_);refine aK 6 (.tuple #[.agg #[p,.int .i64 rr,.int .i64 a,.int .i64 b,.int .i64 c,.int .i64 dd],.bool ok]) ?_;simp only [td];refine aK 7 (.agg #[p,.int .i64 rr,.int .i64 a,.int .i64 b,.int .i64 c,.int .i64 dd]) ?_;simp only [td];refine aK 8 (.bool ok) ?_;simp only [td];have hthere:V3.there W1.heap.size 0 6:=fun i hi=>by
      have h4:i=0∨i=1∨i=2∨i=3∨i=4∨i=5:=by omega
      obtain ⟨_,v0,v1,v2,v3,v4,v5⟩:=bB hT3;rcases h4 with rfl|rfl|rfl|rfl|rfl|rfl
      · exact ⟨by rw [Nat.add_zero,v0];rfl,aB hT3 _⟩
      · exact ⟨by rw [cX,v1];rfl,aB hT3 _⟩
      · exact ⟨by rw [cX,v2];rfl,aB hT3 _⟩
      · exact ⟨by rw [cX,v3];rfl,aB hT3 _⟩
      · exact ⟨by rw [cX,v4];rfl,aB hT3 _⟩
      · exact ⟨by rw [cX,v5];rfl,aB hT3 _⟩
     refine bS 10 fun K hK=>?_;refine wp_store_mid 142 (.tmp 7) (.tmp 37) rfl (W1.heap.size) 0 #[p,.int .i64 rr,.int .i64 a,.int .i64 b,.int .i64 c,.int .i64 dd] rfl rfl hthere (by kernel_rfl) (pW.2 (by intro x hx;simp at hx;rcases hx with rfl|rfl|rfl|rfl|rfl|rfl<;>first|rfl|exact hp1)) ?_;change K _ (bR V3 (W1.heap.size) p (.int .i64 rr) (.int .i64 a) (.int .i64 b) (.int .i64 c) (.int .i64 dd));have hks:∀ (bb o:Nat) (cc:Value),bb<W1.heap.size→W1.cell? ⟨bb,o,none⟩=some cc→(bR V3 (W1.heap.size) p (.int .i64 rr) (.int .i64 a) (.int .i64 b) (.int .i64 c) (.int .i64 dd)).cell? ⟨bb,o,none⟩=some cc:=fun bb o cc hbb hcc=>gN (aC hx3 hcc) (by show bb≠_;omega);refine hK.out _ _ ⟨hks _ _ _ (cP s0) s0,hks _ _ _ (cP s1) s1,hks _ _ _ (cP s2) s2,hks _ _ _ (cP s3) s3,hks _ _ _ (cP s4) s4,hks _ _ _ (cP s5) s5,hks _ _ _ (cP s6) s6⟩ (fun hS=>?_);refine aK 11 (.bool ok) ?_
     simp only [td];refine gA (by kernel_rfl) ?_ _;refine fI ?_;try simp only [Exit.then]
     have HE1:=aA (show (bR V3 (W1.heap.size) p (.int .i64 rr) (.int .i64 a) (.int .i64 b) (.int .i64 c) (.int .i64 dd)).heap[W1.heap.size]?=some (.cells #[p,.int .i64 rr,.int .i64 a,.int .i64 b,.int .i64 c,.int .i64 dd] 142 (0,0)) from cT hT3 _ _ _ _ _ _);have HE2:=aA (show Below W1.heap.size W1 (bR V3 (W1.heap.size) p (.int .i64 rr) (.int .i64 a) (.int .i64 b) (.int .i64 c) (.int .i64 dd)) from cI hx3 (by omega) _ _ _ _ _ _);clear hS hks hthere s0 s1 s2 s3 s4 s5 s6;generalize bR V3 (W1.heap.size) p (.int .i64 rr) (.int .i64 a) (.int .i64 b) (.int .i64 c) (.int .i64 dd)=W9 at *;obtain ⟨_,q0,q1,q2,q3,q4,q5⟩:=bB HE1.out;have HC9:=aA (HC1.out.below HE2.out);have HXB:=aA ((Exw.of_below (R:=wk) (S:=mt) HB1.out).trans ((Exw.of_below (R:=wk) (S:=mt) HE2.out).mono HB1.out.size));cases ok with
     | false =>
      have HEND:Hid (P (.returned (.bool false)) W9):=aA (by
       rw [HP.out,HRES.out];refine bQ HC9.out.st HXB.out ?_;rcases hok with ⟨h1,_⟩|⟨_,h1⟩
       · cases h1
       · exact h1)
      go_wp2;exact HEND.out
     | true =>
      rcases hok with ⟨_,to,t,hj,ht,hval⟩|⟨h1,_⟩
      case inr=>cases h1
      obtain ⟨e0,e1,e2,e3,e4,e5⟩:=nJ hval;injection e1 with _ e1;injection e2 with _ e2;injection e3 with _ e3;injection e4 with _ e4;injection e5 with _ e5;subst e0 e1 e2 e3 e4 e5;have hjb:=gV HC1.out.msg.msg.bytes.1 hj;have hlen:=HC1.out.msg.msg.len;have hlz:aH zs=(zs.length:Int):=rfl;have HSC:=aA (HST.out.run HC9.out r t a hrr ht (by omega));unfold jT at HSC;have HLIFT:Hid (∀ e W,gG (iM (aG ss) zs (bL (aG ss) es zs room) r a t left) wk m mt left ml W9 e W→P e W):=aA (fun e W hp=>by
       rw [HP.out,HRES.out];have he:(cM zs at' fun to=>cC (aG ss) zs (bL (aG ss) es zs room) r to left)=iM (aG ss) zs (bL (aG ss) es zs room) r a t left:=by unfold cM;rw [hj];exact fG ht
       rw [he];exact ⟨HXB.out.trans (hp.1.mono HXB.out.size),hp.2⟩)
      clear hjb hlen hlz hj ht hval hpt;go_wp2_with fail;refine HSC.out.mono ?_;rintro e W2 hp;have HPE:=aA (HLIFT.out e W2 hp);obtain ⟨b,rfl⟩:=iV hp;clear hp q0 q1 q2 q3 q4 q5;go_wp2;exact HPE.out
structure Meth (d:Nat)(T:TypeId)(r:Value)(name:String)(f:FuncId)(rv:Value):Prop where
 finds:∀ (N:Nat) (W:World),(method (N+d) T r name).run Tryd.prog W=.ok (f,rv) W
 enters:∀ (args:Array Value) (W:World),(callFunc f args).run Tryd.prog W=.ok (.enter f args) W
theorem Meth.at {d:Nat}{T:TypeId}{r:Value}{name:String}{f:FuncId}{rv:Value}(h:Meth d T r name f rv)(hd:d≤2)(M:Nat)(W:World)(hN:M=Tryd.prog.types.size+Made.depth):(method M T r name).run Tryd.prog W=.ok (f,rv) W:=by
 obtain ⟨N,rfl⟩:∃ N,M=N+d:=by
  generalize Tryd.prog.types.size=s at hN;have h2:2≤Made.depth:=by decide
  exact ⟨M-d,by omega⟩
 exact h.finds N W
def Says (d:Nat)(w:World)(v:Value)(name:String)(i:Int)(Q:World→Ending→World→Prop):Prop:=
 ∃ T r f rv,v=.iface T r∧Meth d T r name f rv∧∀ W,Below w.heap.size w W→Calls Tryd.prog f #[rv,.int .i64 i] W fun e w'=>Q W e w'∧Below W.heap.size W w'
def aFA (next:World→Value→Nat→Int→Int→PV→Prop)(b:Bool)(k:Nat)(ref lists:Int)(q:PV)(e:Ending)(w':World):Prop:=
 (∃ sv,e=.returned (if b=true then .tuple #[sv,.bool true] else sv)∧next w' sv k ref lists q)∨(b=true∧e=.returned (.tuple #[.nilIface,.bool false])∧q=gO)
def dep (b:Bool):Nat:=if b=true then 2 else 1
structure AskOk (next:World→Value→Nat→Int→Int→PV→Prop)(b:Bool)(w:World)(v:Value)(i k:Nat)(ref lists:Int)(q:PV):Prop where
 sort:1≤aT k lists
 num:aT k lists=1→q=dY q.num∧(q.num:Int)≤18446744073709551615∧Says (dep b) w v "Num" i (fun _ e _=>e=.returned (.int .u64 q.num))
 bytes:aT k lists=2→q=.mk 0 q.bytes [] false∧q.bytes.length≤1000000∧Says (dep b) w v "Bytes" i (fun _ e w'=>∃ A c,e=.returned (.slice A q.bytes.length c)∧Bytes w' A q.bytes)
 list:aT k lists=3→Says (dep b) w v "List" i (fun _ e w'=>∃ lv,e=.returned lv∧next w' lv k ref lists q)
 sub:aT k lists=4→Says (dep b) w v "Sub" i (fun _ e w'=>aFA next b k ref lists q e w')
theorem AskOk.iface {next:World→Value→Nat→Int→Int→PV→Prop}{b:Bool}{w:World}{v:Value}{i k:Nat}{ref lists:Int}{q:PV}(h:AskOk next b w v i k ref lists q):∃ T r,v=.iface T r:=by
 have h1:=h.sort;have h2:aT k lists≤4:=by unfold aT;split<;>(try split)<;>(try split)<;>(try split)<;>(try split)<;>omega
 have h3:aT k lists=1∨aT k lists=2∨aT k lists=3∨aT k lists=4:=by omega
 rcases h3 with h3|h3|h3|h3
 · obtain ⟨_,_,T,r,_,_,hv,_⟩:=h.num h3;exact ⟨T,r,hv⟩
 · obtain ⟨_,_,T,r,_,_,hv,_⟩:=h.bytes h3;exact ⟨T,r,hv⟩
 · obtain ⟨T,r,_,_,hv,_⟩:=h.list h3;exact ⟨T,r,hv⟩
 · obtain ⟨T,r,_,_,hv,_⟩:=h.sub h3;exact ⟨T,r,hv⟩
structure ListHead (w:World)(v:Value)(q:PV):Prop where
 bare:q.num=0∧q.bytes=[]∧q.has=false
 few:q.kids.length≤1000000
 len:(v=.nilIface∧q.kids=[])∨∃ T r f rv,v=.iface T r∧Meth 1 T r "Len" f rv∧∀ W,Below w.heap.size w W→Calls Tryd.prog f #[rv] W fun e w'=>e=.returned (.int .i64 q.kids.length)∧Below W.heap.size W w'
def tJ (ss:List cO)(ref:Int):cO:=ss.getD ref.toNat ⟨⟨#[]⟩,[]⟩
structure aAL (ss:List cO)(v:Value)(ref:Int)(q:PV):Prop where
 there:∃ T r,v=.iface T r
 bare:q.num=0∧q.bytes=[]∧q.has=true
 within:0≤ref∧ref<ss.length
 few:q.kids.length=(tJ ss ref).fields.length
def Shown (ss:List cO):Nat→World→Value→Nat→Int→Int→PV→Prop
 | 0,w,v,k,_,lists,q=>aT k lists=3∧ListHead w v q∧q.kids=[]
 | r+1,w,v,k,ref,lists,q =>
  (aT k lists=3∧ListHead w v q∧∀ j (hj:j<q.kids.length),AskOk (Shown ss r) false w v j k ref (lists-1) (q.kids[j]'hj)) ∨
  (aT k lists=4∧aAL ss v ref q∧∀ j (hj:j<q.kids.length) (hf:j<(tJ ss ref).fields.length),AskOk (Shown ss r) true w v j ((tJ ss ref).fields[j]'hf).kind ((tJ ss ref).fields[j]'hf).ref ((tJ ss ref).fields[j]'hf).lists (q.kids[j]'hj))
theorem Says.later {d:Nat}{w w2:World}{v:Value}{name:String}{i:Int}{Q:World→Ending→World→Prop}(h:Says d w v name i Q)(hb:Below w.heap.size w w2):Says d w2 v name i Q:=by obtain ⟨T,r,f,rv,hv,hm,hc⟩:=h;exact ⟨T,r,f,rv,hv,hm,fun W hW=>hc W (hb.trans (hW.mono hb.size))⟩
theorem AskOk.later {next:World→Value→Nat→Int→Int→PV→Prop}{b:Bool}{w w2:World}{v:Value}{i k:Nat}{ref lists:Int}{q:PV}(h:AskOk next b w v i k ref lists q)(hb:Below w.heap.size w w2):AskOk next b w2 v i k ref lists q:=
 ⟨h.sort,fun hs=>⟨(h.num hs).1,(h.num hs).2.1,(h.num hs).2.2.later hb⟩,fun hs=>⟨(h.bytes hs).1,(h.bytes hs).2.1,(h.bytes hs).2.2.later hb⟩,fun hs=>(h.list hs).later hb,fun hs=>(h.sub hs).later hb⟩
theorem ListHead.later {w w2:World}{v:Value}{q:PV}(h:ListHead w v q)(hb:Below w.heap.size w w2):ListHead w2 v q:=
 ⟨h.bare,h.few,by
  rcases h.len with h1|⟨T,r,f,rv,hv,hm,hc⟩
  · exact .inl h1
  · exact .inr ⟨T,r,f,rv,hv,hm,fun W hW=>hc W (hb.trans (hW.mono hb.size))⟩⟩
theorem Shown.later {ss:List cO}:∀ (n:Nat) {w w2:World} {v:Value} {k:Nat} {ref lists:Int} {q:PV},Shown ss n w v k ref lists q→Below w.heap.size w w2→Shown ss n w2 v k ref lists q
 | 0,_,_,_,_,_,_,_,h,hb=>⟨h.1,h.2.1.later hb,h.2.2⟩
 | _+1,_,_,_,_,_,_,_,h,hb=>by
  rcases h with ⟨h1,h2,h3⟩|⟨h1,h2,h3⟩
  · exact .inl ⟨h1,h2.later hb,fun j hj=>(h3 j hj).later hb⟩
  · exact .inr ⟨h1,h2,fun j hj hf=>(h3 j hj hf).later hb⟩
theorem aDf {T:TypeId}{r rv:Value}{f:FuncId}(h:Meth 1 T r "Num" f rv)(N:Nat)(W:World):(method (N+2) 234 (.agg #[.iface T r]) "Num").run Tryd.prog W=.ok (f,rv) W:=
 (show _=(method (N+1) T r "Num").run Tryd.prog W by kernel_rfl).trans (h.finds N W)
theorem aAO {T:TypeId}{r rv:Value}{f:FuncId}(h:Meth 1 T r "Bytes" f rv)(N:Nat)(W:World):(method (N+2) 234 (.agg #[.iface T r]) "Bytes").run Tryd.prog W=.ok (f,rv) W:=
 (show _=(method (N+1) T r "Bytes").run Tryd.prog W by kernel_rfl).trans (h.finds N W)
theorem aBZ {T:TypeId}{r rv:Value}{f:FuncId}(h:Meth 1 T r "List" f rv)(N:Nat)(W:World):(method (N+2) 234 (.agg #[.iface T r]) "List").run Tryd.prog W=.ok (f,rv) W:=
 (show _=(method (N+1) T r "List").run Tryd.prog W by kernel_rfl).trans (h.finds N W)
theorem aDe (v:Value)(N:Nat)(W:World):(method (N+2) 234 (.agg #[v]) "Sub").run Tryd.prog W=.ok (180,.agg #[v]) W:=by kernel_rfl
end Go.Proofs.YtpbaaiilfkacnaaDoor
