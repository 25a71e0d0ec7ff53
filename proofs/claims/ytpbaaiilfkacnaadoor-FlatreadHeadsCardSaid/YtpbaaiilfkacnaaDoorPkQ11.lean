/-
  Numbers of a message of tables, plain: which fit their type. Conditions: those that each theorem names.
-/
import Derived.Test.YtpbaaiilfkacnaaDoorPkQ10
namespace Go.Proofs.YtpbaaiilfkacnaaDoor
open Go.RowKit
set_option maxRecDepth 100000
set_option maxHeartbeats 16000000
section
open Go.ChangeShapes Go.WideShapes Go.ChangeAt
theorem yR (n s:Int)(w:World) :
  Calls Tryd.prog 105 #[.int .u64 n,.int .i64 s] w fun e w'=>e=.returned (.int .u64 (cG n s))∧w=w':=by
 by_cases e1:s=1
 · subst e1;have E:IntKind.u64.wrap (IntKind.i8.wrap n)=cG n 1:=by
    rw [xC];split<;>(simp only [IntKind.wrap,IntKind.bits,IntKind.signed];simp;omega)
   have H:=aA E;clear E;go_enter Tryd.func105,Tryd.ntmps105;go_wp2;go_ret;exact ⟨cH H.out,rfl⟩
 by_cases e2:s=2
 · subst e2;have E:IntKind.u64.wrap (IntKind.i16.wrap n)=cG n 2:=by
    rw [wB];split<;>(simp only [IntKind.wrap,IntKind.bits,IntKind.signed];simp;omega)
   have H:=aA E;clear E;go_enter Tryd.func105,Tryd.ntmps105;go_wp2;go_ret;exact ⟨cH H.out,rfl⟩
 by_cases e4:s=4
 · subst e4;have E:IntKind.u64.wrap (wrap32 n)=cG n 4:=by
    rw [wN,←IntWalk.i32_left];split<;>(simp only [IntKind.wrap,IntKind.bits,IntKind.signed];simp;omega)
   have H:=aA E;clear E;go_enter Tryd.func105,Tryd.ntmps105;go_wp2;go_ret;exact ⟨cH H.out,rfl⟩
 have H:=aA (oS n s e1 e2 e4);have hs1:(s==1)=false:=by simp;omega
 have hs2:(s==2)=false:=by simp;omega
 have hs4:(s==4)=false:=by simp;omega
 clear e1 e2 e4;rw [H.out];go_enter Tryd.func105,Tryd.ntmps105;go_wp2;go_ret;exact ⟨rfl,rfl⟩
end
section
open Go.ChangeShapes Go.WideShapes Go.ChangeAt Go.Shelf
def dQ (zs:List Int)(k:Nat)(at':Int):Int:=if eT k=true then cG (dU zs at' (aP k).toNat) (aP k) else dU zs at' (aP k).toNat
theorem kQ {k:Nat}(h:0<aP k):∃ s:Nat,aP k=s∧(s=1∨s=2∨s=4∨s=8):=by
 unfold aP at h ⊢;split
 · exact ⟨1,rfl,.inl rfl⟩
 split
 · exact ⟨2,rfl,.inr (.inl rfl)⟩
 split
 · exact ⟨4,rfl,.inr (.inr (.inl rfl))⟩
 split
 · exact ⟨8,rfl,.inr (.inr (.inr rfl))⟩
 · rename_i h1 h2 h3 h4
   rw [if_neg h1,if_neg h2,if_neg h3,if_neg h4] at h;exact absurd h (by decide)
theorem lE (w:World){base m:Nat}{bp:Option Addr}{bc:Nat}{sv ev:Value}{zs:List Int}{fs:List (List dT × Value)}{ns:List Nat}(h:IsMsg base w m bp bc sv ev zs fs ns)(k:Nat)(ref lists at':Int)(d:Nat)(there:Bool)(hk:0<aP k) :
  Calls Tryd.prog 144 #[.pointer (some ⟨m,0,none⟩),dD k ref lists at' d there] w fun e w'=>e=.returned (.int .u64 (if there=true then dQ zs k at' else d))∧Below w.heap.size w w':=by
 have hb:=(bH w.heap.size w).alloc bD (.cells #[.int .u8 k,.int .i64 ref,.int .i64 lists,.int .i64 at',.int .u64 d,.bool there] 182);have HB:=aA hb;have HM:=aA (h.below hb);have HX:=aA (cN w (.cells #[.int .u8 k,.int .i64 ref,.int .i64 lists,.int .i64 at',.int .u64 d,.bool there] 182));obtain ⟨_,x0,x1,x2,x3,x4,x5⟩:=bB HX.out;have hlen:=h.len;clear hb h;unfold dD;cases there with
 | false =>
  go_enter Tryd.func144,Tryd.ntmps144;go_wp2;go_ret;exact ⟨rfl,HB.out⟩
 | true =>
  obtain ⟨s,hs,hs4⟩:=kQ hk;have HV:Hid (dQ zs k at'=if eT k=true then cG (dU zs at' s) s else dU zs at' s):=aA (by unfold dQ;rw [hs];rfl);obtain ⟨r,hr⟩:∃ r,dQ zs k at'=r:=⟨_,rfl⟩;rw [hr] at HV;rw [bG rfl,hr];have HBY:=aA HM.out.bytes;have HL:=aA (fun W (hb:Below (w.alloc (.cells #[.int .u8 k,.int .i64 ref,.int .i64 lists,.int .i64 at',.int .u64 d,.bool true] 182)).heap.size (w.alloc (.cells #[.int .u8 k,.int .i64 ref,.int .i64 lists,.int .i64 at',.int .u64 d,.bool true] 182)) W)=>pJ bp bc zs at' s W (HBY.out.below bD hb) hlen hs4);have HSZ:Hid (∀ W,Calls Tryd.prog 49 #[.int .u8 k] W fun e w'=>e=.returned (.int .i64 s)∧W=w'):=aA (fun W=>by have h:=lO (k:Int) W;rw [hs] at h;exact h);have HSG:=aA (fun W=>aB5 (k:Int) W);generalize dU zs at' s=z at *;have HSD:=aA (fun W=>yR z s W);clear hr hs hs4 hk
  generalize cV (aH zs) at' s=b at *;generalize cG z s=sg at *;go_enter Tryd.func144,Tryd.ntmps144;go_upto_region 1 with (fail);generalize w.alloc (.cells #[.int .u8 k,.int .i64 ref,.int .i64 lists,.int .i64 at',.int .u64 d,.bool true] 182)=W0 at *;obtain ⟨_,m0,m1,m2,_⟩:=aS HM.out.blk;go_wp2_with fail;refine (HSZ.out _).mono ?_;rintro e _ ⟨rfl,rfl⟩;go_upto_region 4 with (fail);go_quiet (first|(go_at_call 129;exact iW (HL.out _ (dB (bH _ _) _))))
  go_wp2_with fail;refine (HSG.out _).mono ?_;rintro e _ ⟨rfl,rfl⟩;cases hsg:eT (k:Int) with
  | true =>
   have HV2:Hid (sg=r):=aA (by rw [HV.out,bG hsg]);clear hsg HV;go_wp2_with fail;refine (HSD.out _).mono ?_;rintro e _ ⟨rfl,rfl⟩;go_wp2;go_ret;exact ⟨cH HV2.out,dB HB.out _⟩
  | false =>
   have HV2:Hid (z=r):=aA (by rw [HV.out,hsg];rfl);clear hsg HV;go_wp2;go_ret;exact ⟨cH HV2.out,dB HB.out _⟩
def xP (fs:List (List dT × Value))(rec:Int)(e:Ending):Prop:=
 (¬(0≤rec∧rec<fs.length)∧e=.returned (.slice none 0 0))∨(∃ (i:Nat) (hi:i<fs.length),rec=i∧e=.returned (fs[i]'hi).2)
theorem rS (w:World){base m:Nat}{bp:Option Addr}{bc:Nat}{sv ev:Value}{zs:List Int}{fs:List (List dT × Value)}{ns:List Nat}(h:IsMsg base w m bp bc sv ev zs fs ns)(rec:Int) :
  Calls Tryd.prog 110 #[.pointer (some ⟨m,0,none⟩),.int .i64 rec] w fun e w'=>xP fs rec e∧w=w':=by
 obtain ⟨sa,sc,rfl⟩:=aJ h.structs;obtain ⟨_,m0,m1,m2,_⟩:=aS h.blk;have hfew:=iG h.structs;have HM:=aA h;clear h;by_cases hlo:rec<0
 · go_enter Tryd.func110,Tryd.ntmps110;go_wp2;go_ret;exact ⟨.inl ⟨by omega,rfl⟩,rfl⟩
 obtain ⟨i,rfl⟩:=Int.eq_ofNat_of_zero_le (by omega:0≤rec);by_cases hhi:fs.length≤i
 · have t0:(fs.length:Int)≤(i:Int):=by omega
   go_enter Tryd.func110,Tryd.ntmps110;go_wp2;go_ret;exact ⟨.inl ⟨by omega,rfl⟩,rfl⟩
 · have hil:i<fs.length:=by omega
   have t0:¬(fs.length:Int)≤(i:Int):=by omega
   have hib:(i:Int)<fs.length:=by omega
   have hib0:(0:Int)≤(i:Int):=by omega
   obtain ⟨g,cc,hv,hcc,hgl,hcell⟩:=eP sX 1 (fun _=>rfl) HM.out.structs i hil;obtain ⟨rfl,rfl⟩:=dG hv;have y1:w.cell? ⟨g,i,none⟩=some fs[i].2:=by have:=hcell 0 (by omega);rw [Nat.mul_one] at this;exact this
   obtain ⟨fa,fc,hf⟩:=aJ (HM.out.fields _ (jK hil));have HF:=aA hf;rw [hf] at y1;clear hcell hv hf;generalize fs[i].1.length=fl at *;go_enter Tryd.func110,Tryd.ntmps110;go_wp2;go_ret;exact ⟨.inr ⟨i,hil,rfl,by rw [HF.out];rfl⟩,rfl⟩
def jT (m:Nat)(ref:Int)(t:mO)(p:Int):Value:=.agg #[.pointer (some ⟨m,0,none⟩),.int .i64 ref,.int .i64 p,.int .i64 t.own,.int .i64 t.la,.int .i64 t.size]
def sJ (zs:List Int)(m:Nat)(ref at':Int)(there:Bool)(e:Ending):Prop:=
 (∃ to t,there=true∧fM zs at'=some to∧gX zs to=some t∧e=.returned (.tuple #[jT m ref t to,.bool true])) ∨
 ((there=true→∀ to,fM zs at'=some to→gX zs to=none)∧∃ p r a b c d,e=.returned (.tuple #[.agg #[.pointer p,.int .i64 r,.int .i64 a,.int .i64 b,.int .i64 c,.int .i64 d],.bool false]))
theorem gV {zs:List Int}{at' to:Int}(hz:∀ i,0≤zs.getD i 0∧zs.getD i 0≤255)(h:fM zs at'=some to):0≤at'∧at'≤to∧to≤aH zs∧cV (aH zs) at' 4=true:=by
 unfold fM at h;split at h
 · rename_i h1
   have h2:=aW.1 h1;have h3:=dW zs at'.toNat hz;split at h
   · injection h with h;subst h;exact ⟨h2.1,by omega,by assumption,h1⟩
   · cases h
 · cases h
theorem iJ (w:World){base m:Nat}{bp:Option Addr}{bc:Nat}{sv ev:Value}{zs:List Int}{fs:List (List dT × Value)}{ns:List Nat}(h:IsMsg base w m bp bc sv ev zs fs ns)(k:Nat)(ref lists at':Int)(d:Nat)(there:Bool) :
  Calls Tryd.prog 84 #[.pointer (some ⟨m,0,none⟩),dD k ref lists at' d there] w fun e w'=>sJ zs m ref at' there e∧Below w.heap.size w w':=by
 obtain ⟨hb,hq1,hq2⟩:=bF w #[.int .u8 k,.int .i64 ref,.int .i64 lists,.int .i64 at',.int .u64 d,.bool there] #[.pointer none,.int .i64 0,.int .i64 0,.int .i64 0,.int .i64 0,.int .i64 0] 182 142;have HB:=aA hb;have HM:=aA (h.below hb);have HQ1:=aA hq1;have HQ2:=aA hq2;have hzb:=h.bytes.1;have hlen:=h.len;have HT:=aA (gB _ (h.below hb) k ref lists at' d there);unfold dD at *;clear hb hq1 hq2 h;obtain ⟨tgt,htgt⟩:∃ tgt,(if there=true then fM zs at' else none)=tgt:=⟨_,rfl⟩;rw [htgt] at HT;have HTG:=aA htgt;have hbd:∀ to,tgt=some to→0≤to∧to≤16384:=fun to e=>by
  subst e;cases there with
  | false=>simp at htgt
  | true =>
   have h1:=gV hzb (by simpa using htgt);unfold aH at h1;omega
 clear htgt hzb hlen;obtain ⟨P,hP⟩:∃ P,sJ zs m ref at' there=P:=⟨_,rfl⟩;rw [hP];have HP:=aA hP.symm;clear hP;go_enter Tryd.func84,Tryd.ntmps84;go_upto_region 1 with (fail);generalize (w.alloc (.cells #[.int .u8 k,.int .i64 ref,.int .i64 lists,.int .i64 at',.int .u64 d,.bool there] 182)).alloc (.cells #[.pointer none,.int .i64 0,.int .i64 0,.int .i64 0,.int .i64 0,.int .i64 0] 142)=W0 at *;obtain ⟨_,x0,x1,x2,x3,x4,x5⟩:=bB HQ1.out;go_wp2_with fail;refine HT.out.mono ?_;rintro e W1 ⟨rfl,hb1⟩;have HB1:=aA (HB.out.trans (hb1.mono HB.out.size));have P1:=aA (aE HQ1.out hb1 (aD HQ1.out));have P2:=aA (aE HQ2.out hb1 (aD HQ2.out));have HM1:=aA (HM.out.below hb1);clear hb1 x0 x1 x2 x3 x4 x5 HQ1 HQ2 HB HM HT;cases tgt with
 | none =>
  have HPV:=aA (show ∀ e,(∃ p r a b c d,e=.returned (.tuple #[.agg #[.pointer p,.int .i64 r,.int .i64 a,.int .i64 b,.int .i64 c,.int .i64 d],.bool false]))→P e from fun e he=>by rw [HP.out];refine .inr ⟨fun ht to hj=>?_,he⟩;have h1:=HTG.out;rw [bG ht,hj] at h1;cases h1);unfold sQ;clear hbd;obtain ⟨_,u0,u1,u2,u3,u4,u5⟩:=bB P2.out;have p0:=aB P2.out 0;have p1:=aB P2.out 1;have p2:=aB P2.out 2;have p3:=aB P2.out 3;have p4:=aB P2.out 4;have p5:=aB P2.out 5;go_wp2;refine aI (fun Wf=>Wf.heap[w.heap.size+1]?=some (.cells #[.pointer none,.int .i64 0,.int .i64 0,.int .i64 0,.int .i64 0,.int .i64 0] 142 (0,0))∧Below w.heap.size w Wf) ⟨?_,?_⟩ ?_
  · exact cT P2.out _ _ _ _ _ _
  · exact cI HB1.out (Nat.le_succ _) _ _ _ _ _ _
  · rintro Wf ⟨e1,e2⟩;obtain ⟨_,d0,d1,d2,d3,d4,d5⟩:=bB e1;exact dZ (v:=.tuple #[.agg #[.pointer none,.int .i64 0,.int .i64 0,.int .i64 0,.int .i64 0,.int .i64 0],.bool false]) (by simp [results,Tryd.results84,go_sem,d0,d1,d2,d3,d4,d5]) rfl ⟨HPV.out _ ⟨_,_,_,_,_,_,rfl⟩,e2⟩
 | some to =>
  have hto:=hbd to rfl;have HTB:=aA (aDu W1 HM1.out to (by omega));unfold sQ;clear hbd;go_wp2_with fail;refine HTB.out.mono ?_;rintro e W2 ⟨htp,hb2⟩;have HB2:=aA (HB1.out.trans (hb2.mono HB1.out.size));have P3:=aA (aE P1.out hb2 (aD P1.out));have P4:=aA (aE P2.out hb2 (aD P2.out));obtain ⟨a,b,c,d',ok,rfl,hok⟩:∃ a b c d' ok,e=.returned (.tuple #[.agg #[.int .i64 a,.int .i64 b,.int .i64 c,.int .i64 d'],.bool ok])∧((ok=true∧gX zs to=some ⟨b,c,d'⟩∧a=to)∨(ok=false∧gX zs to=none)):=by
   rcases htp with ⟨t,ht,rfl⟩|⟨ht,a,b,c,d',rfl⟩
   · exact ⟨to,t.own,t.la,t.size,true,rfl,.inl ⟨rfl,ht,rfl⟩⟩
   · exact ⟨a,b,c,d',false,rfl,.inr ⟨rfl,ht⟩⟩
  have HPV:Hid (P (.returned (.tuple #[.agg #[.pointer (some ⟨m,0,none⟩),.int .i64 ref,.int .i64 a,.int .i64 b,.int .i64 c,.int .i64 d'],.bool ok]))):=aA (by
   rw [HP.out];have h1:=HTG.out;cases there with
   | false=>cases h1
   | true =>
    rw [bG rfl] at h1;rcases hok with ⟨rfl,ht,rfl⟩|⟨rfl,ht⟩
    · exact .inl ⟨a,⟨b,c,d'⟩,rfl,h1,ht,rfl⟩
    · exact .inr ⟨fun _ to' hj=>by rw [h1] at hj;injection hj with hj;subst hj;exact ht,_,_,_,_,_,_,rfl⟩)
  clear htp hb2 hok HTB;go_upto_region 5 with (fail);have hba:Below W2.heap.size W2 (W2.alloc (.cells #[.int .i64 a,.int .i64 b,.int .i64 c,.int .i64 d'] 140)):=(bH _ _).alloc bD _;have hn:=cN W2 (.cells #[.int .i64 a,.int .i64 b,.int .i64 c,.int .i64 d'] 140);have HB3:=aA (HB2.out.trans (hba.mono HB2.out.size));have P5:=aA (aE P3.out hba (aD P3.out));have P6:=aA (aE P4.out hba (aD P4.out));clear hba;generalize W2.alloc (.cells #[.int .i64 a,.int .i64 b,.int .i64 c,.int .i64 d'] 140)=W3 at *;generalize W2.heap.size=T at *;obtain ⟨_,y0,y1,y2,y3⟩:=aF hn;obtain ⟨_,x0,x1,x2,x3,x4,x5⟩:=bB P5.out;obtain ⟨_,u0,u1,u2,u3,u4,u5⟩:=bB P6.out;have p0:=aB P6.out 0;have p1:=aB P6.out 1;have p2:=aB P6.out 2;have p3:=aB P6.out 3;have p4:=aB P6.out 4;have p5:=aB P6.out 5;clear hn;go_wp2
  refine aI (fun Wf=>Wf.heap[w.heap.size+1]?=some (.cells #[.pointer (some ⟨m,0,none⟩),.int .i64 ref,.int .i64 a,.int .i64 b,.int .i64 c,.int .i64 d'] 142 (0,0))∧Below w.heap.size w Wf) ⟨?_,?_⟩ ?_
  · exact cT P6.out _ _ _ _ _ _
  · exact cI HB3.out (Nat.le_succ _) _ _ _ _ _ _
  · rintro Wf ⟨e1,e2⟩;obtain ⟨_,d0,d1,d2,d3,d4,d5⟩:=bB e1;exact dZ (v:=.tuple #[.agg #[.pointer (some ⟨m,0,none⟩),.int .i64 ref,.int .i64 a,.int .i64 b,.int .i64 c,.int .i64 d'],.bool ok]) (by simp [results,Tryd.results84,go_sem,d0,d1,d2,d3,d4,d5]) rfl ⟨HPV.out,e2⟩
end
theorem aBc {k:Nat}(h:0<aP k):1≤k∧k≤10:=by
 have h1:=jB (k:Int);rcases Nat.lt_or_ge k 1 with h2|h2
 · rw [h1 (.inl (by omega))] at h;exact absurd h (by decide)
 · rcases Nat.lt_or_ge 10 k with h3|h3
   · rw [h1 (.inr (by omega))] at h;exact absurd h (by decide)
   · exact ⟨h2,h3⟩
theorem qV {M z:Int}(hM:M=128∨M=32768∨M=2147483648):0≤oU M z∧oU M z≤18446744073709551615:=by unfold oU;split<;>rcases hM with rfl|rfl|rfl<;>omega
theorem qZ {M z:Int}(hM:M=128∨M=32768∨M=2147483648):oU M (oU M z)=oU M z:=by unfold oU;split<;>rcases hM with rfl|rfl|rfl<;>(split<;>omega)
theorem nO {zs:List Int}{k:Nat}{at':Int}(hz:∀ i,0≤zs.getD i 0∧zs.getD i 0≤255)(hk:0<aP k):0≤dQ zs k at'∧dQ zs k at'≤18446744073709551615:=by
 have hld:∀ n,n=1∨n=2∨n=4∨n=8→0≤dU zs at' n∧dU zs at' n≤18446744073709551615:=fun n hn=>by
  unfold dU;split
  · rcases hn with rfl|rfl|rfl|rfl
    · have:=aDw zs at'.toNat hz;omega
    · have:=mU zs at'.toNat hz;omega
    · have:=dW zs at'.toNat hz;omega
    · have:=aDY zs at'.toNat hz;omega
  · omega
 obtain ⟨s,hs,hs4⟩:=kQ hk;have h1:=hld s hs4;unfold dQ;rw [hs];show 0≤(if _ then cG (dU zs at' s) s else dU zs at' s)∧(if _ then cG (dU zs at' s) s else dU zs at' s)≤_;split
 · rcases hs4 with rfl|rfl|rfl|rfl
   · exact qV (.inl rfl)
   · exact qV (.inr (.inl rfl))
   · exact qV (.inr (.inr rfl))
   · exact h1
 · exact h1
theorem aD8 {zs:List Int}{at':Int}{n:Nat}(hz:∀ i,0≤zs.getD i 0∧zs.getD i 0≤255):0≤dU zs at' n∧dU zs at' n<2 ^ (8 * n):=by
 unfold dU;split
 · exact pX zs at'.toNat n hz
 · exact ⟨by omega,Int.pow_pos (by decide)⟩
theorem zU (z:Int):cG z 1=oU 128 z:=bG rfl
theorem aAd (z:Int):cG z 2=oU 32768 z:=by unfold cG;rw [if_neg (by decide),bG rfl]
theorem yH (z:Int):cG z 4=oU 2147483648 z:=by unfold cG;rw [if_neg (by decide),if_neg (by decide),bG rfl]
theorem aBi {es:List aX}{zs:List Int}{k:Nat}{ref at':Int}(hz:∀ i,0≤zs.getD i 0∧zs.getD i 0≤255)(hk:0<aP k)(h1:k≠1)(h10:k≠10):dV es k ref 0 (dQ zs k at').toNat=true:=by
 have hk2:=aBc hk;have hn:=nO (at':=at') hz hk;have hnt:cK k 0=true:=by unfold cK;rw [fO hk];rfl
 unfold dV;rw [hnt,if_neg (by decide),if_neg h1,if_neg h10];have hc:k=2∨k=3∨k=4∨k=5∨k=6∨k=7∨k=8∨k=9:=by omega
 have hu:∀ n,n=1∨n=2∨n=4∨n=8→(dU zs at' n).toNat / 2 ^ (8 * n)=0:=fun n _=>by
  have h:=aD8 (at':=at') (n:=n) hz;apply Nat.div_eq_of_lt
  have h2:(dU zs at' n).toNat<2 ^ (8 * n) ↔ dU zs at' n<((2 ^ (8 * n):Nat):Int):=by omega
  rw [h2];have h3:((2 ^ (8 * n):Nat):Int)=(2:Int) ^ (8 * n):=by simp
  rw [h3];exact h.2
 rcases hc with rfl|rfl|rfl|rfl|rfl|rfl|rfl|rfl
 · have e:dQ zs 2 at'=oU 128 (dU zs at' 1):=by unfold dQ;rw [bG (by decide)];exact zU _
   rw [bG (by decide)];rw [e] at hn ⊢;refine fO ?_;rw [show aP ((2:Nat):Int)=1 from rfl,zU];rw [Int.toNat_of_nonneg hn.1];exact qZ (.inl rfl)
 · have e:dQ zs 3 at'=oU 32768 (dU zs at' 2):=by unfold dQ;rw [bG (by decide)];exact aAd _
   rw [bG (by decide)];rw [e] at hn ⊢;refine fO ?_;rw [show aP ((3:Nat):Int)=2 from rfl,aAd];rw [Int.toNat_of_nonneg hn.1];exact qZ (.inr (.inl rfl))
 · have e:dQ zs 4 at'=oU 2147483648 (dU zs at' 4):=by unfold dQ;rw [bG (by decide)];exact yH _
   rw [bG (by decide)];rw [e] at hn ⊢;refine fO ?_;rw [show aP ((4:Nat):Int)=4 from rfl,yH];rw [Int.toNat_of_nonneg hn.1];exact qZ (.inr (.inr rfl))
 · rw [bG (by decide)];exact fO rfl
 · rw [if_neg (by decide)];exact fO (hu 1 (by decide))
 · rw [if_neg (by decide)];exact fO (hu 2 (by decide))
 · rw [if_neg (by decide)];exact fO (hu 4 (by decide))
 · rw [if_neg (by decide)];exact fO (hu 8 (by decide))
theorem sI {es:List aX}{zs:List Int}{k:Nat}{ref at' left:Int}(hk:0<aP k)(hin:cV (aH zs) at' (aP k)=true):oK es zs k ref at' left=if dV es k ref 0 (dQ zs k at').toNat=true then some (dY (dQ zs k at').toNat,left) else none:=by
 obtain ⟨s,hs,_⟩:=kQ hk;have e:dU zs at' (aP k).toNat=aY zs at'.toNat (aP k).toNat:=by unfold dU;rw [hs,lN];rw [hs] at hin;rw [bG hin]
 unfold oK dQ;rw [bG hin,e]
end Go.Proofs.YtpbaaiilfkacnaaDoor
